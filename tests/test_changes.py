"""Points 30 to 33, and points 2 and 3 for changes."""

import copy
import itertools

from slabpins import changes
from slabpins.arising import order_of
from slabpins.changes import merged, renamed, renamed_table, scaled, thinned, with_class, with_limit, without_page
from slabpins.errors import NoClass, NoSlab, NoTable
from slabpins.slabs import Slab
from slabpins.tables import check_table
from tests.model import SLABS, has, is_table, tables_of
from tests.support import NO_INTEGERS, ODD_LISTS, ODD_TUPLES, ODD_VALUES, Case

SMALL = Slab([(1, 4), (2, 2)], 7)
ALIKE = Slab([(1, 4), (2, 2), (1, 4), (1, 3), (2, 4)], 20)
WIDE = Slab([(1, 60), (1, 60)], 10 ** 6)
SIX = Slab([(1, 1), (2, 2), (3, 3), (4, 4), (5, 5), (6, 6)], 70)
MORE = SLABS + [Slab([(1, 4), (2, 2)], 7), Slab([(1, 2), (1, 2)], 5), Slab([(1, 2), (2, 1), (1, 2)], 5)]


def proper(slab):
    return [table for table in tables_of(slab) if is_table(slab, table)]


def arises(slab, table, pins=None):
    return order_of(slab, table, pins=pins)[0] == "order"


def pinned(slab):
    """All tables of a slab with some of their pins, every pins for the smaller ones."""
    tables = proper(slab)
    for at, pins in enumerate(tables):
        for table in tables:
            if has(table, pins) and (len(tables) < 60 or at % 5 == 0):
                yield table, pins


class Slabs(Case):
    def slab(self, found, classes, limit):
        self.assertIsInstance(found, Slab)
        self.same(found.classes(), classes)
        self.same(found.limit(), limit)
        self.assertTrue(found == Slab(classes, limit))

    def test_with_class(self):
        self.slab(with_class(SMALL, 3, 5), [(1, 4), (2, 2), (3, 5)], 7)
        self.slab(with_class(SMALL, 1, 4), [(1, 4), (2, 2), (1, 4)], 7)
        for size in (1, 1000):
            for slots in (1, 60):
                self.slab(with_class(Slab([(3, 2)], 0), size, slots), [(3, 2), (size, slots)], 0)

    def test_six_classes_and_one_more(self):
        slab = Slab([(1, 4)], 10 ** 6)
        for many in range(2, 7):
            slab = with_class(slab, many, many)
            self.same(len(slab), many)
        self.slab(slab, [(1, 4), (2, 2), (3, 3), (4, 4), (5, 5), (6, 6)], 10 ** 6)
        self.raises(NoSlab(-1), with_class, slab, 7, 7)
        self.raises(NoSlab(-1), with_class, slab, 0, None)

    def test_what_is_no_class(self):
        for odd in NO_INTEGERS + [0, -1, 10 ** 30]:
            for size, slots in ((odd, 1), (1, odd), (odd, odd)):
                self.raises(NoSlab(2), with_class, SMALL, size, slots)
                self.raises(NoSlab(1), with_class, Slab([(1, 1)], 0), size, slots)
        self.raises(NoSlab(2), with_class, SMALL, 1001, 60)
        self.raises(NoSlab(2), with_class, SMALL, 1000, 61)
        self.raises(NoSlab(5), with_class, Slab([(1, 1)] * 5, 0), 1001, 61)

    def test_with_limit(self):
        for limit in (0, 1, 7, 8, 10 ** 6 - 1, 10 ** 6):
            self.slab(with_limit(SMALL, limit), [(1, 4), (2, 2)], limit)
            self.slab(with_limit(SIX, limit), SIX.classes(), limit)
        for limit in NO_INTEGERS + [-1, -10 ** 30, 10 ** 6 + 1, 10 ** 30]:
            self.raises(NoSlab(-1), with_limit, SMALL, limit)

    def test_scaled(self):
        self.slab(scaled(SMALL, 1), [(1, 4), (2, 2)], 7)
        self.slab(scaled(SMALL, 3), [(3, 4), (6, 2)], 21)
        self.slab(scaled(SMALL, 500), [(500, 4), (1000, 2)], 3500)
        self.slab(scaled(Slab([(1, 60)] * 6, 1000), 1000), [(1000, 60)] * 6, 10 ** 6)
        self.slab(scaled(Slab([(1000, 60), (5, 3)], 10 ** 6), 1), [(1000, 60), (5, 3)], 10 ** 6)

    def test_scaled_too_far(self):
        self.raises(NoSlab(1), scaled, SMALL, 501)
        self.raises(NoSlab(0), scaled, SMALL, 1001)
        self.raises(NoSlab(0), scaled, Slab([(500, 4)], 7), 3)
        self.raises(NoSlab(2), scaled, Slab([(1, 4), (10, 3), (11, 2), (12, 1)], 7), 100 - 8)
        self.raises(NoSlab(0), scaled, Slab([(1, 4)], 0), 10 ** 6)
        self.raises(NoSlab(0), scaled, Slab([(1, 4)], 1), 10 ** 6)
        # The limit is told before the sizes.
        self.raises(NoSlab(-1), scaled, Slab([(1, 4)], 2), 10 ** 6)
        self.raises(NoSlab(-1), scaled, Slab([(1, 4)], 1001), 1000)
        self.raises(NoSlab(-1), scaled, Slab([(1000, 4)], 500001), 2)
        self.raises(NoSlab(0), scaled, Slab([(1000, 4)], 500000), 2)

    def test_what_is_no_factor(self):
        for factor in NO_INTEGERS + [0, -1, -10 ** 30, 10 ** 6 + 1, 10 ** 30]:
            self.raises(NoSlab(-1), scaled, SMALL, factor)
            self.raises(NoSlab(-1), scaled, Slab([(1, 1)], 0), factor)

    def test_renamed(self):
        self.slab(renamed(SMALL, [1, 0]), [(2, 2), (1, 4)], 7)
        self.slab(renamed(SMALL, [0, 1]), [(1, 4), (2, 2)], 7)
        self.slab(renamed(Slab([(5, 5)], 3), [0]), [(5, 5)], 3)
        self.slab(renamed(Slab([(1, 1), (2, 2), (3, 3)], 9), [2, 0, 1]), [(3, 3), (1, 1), (2, 2)], 9)
        self.slab(renamed(SIX, [5, 3, 1, 0, 2, 4]), [(6, 6), (4, 4), (2, 2), (1, 1), (3, 3), (5, 5)], 70)


class Tables(Case):
    def test_renamed_tables(self):
        self.same(renamed_table(SMALL, ((1, 3), ()), [1, 0]), ((), (1, 3)))
        self.same(renamed_table(SMALL, ((1, 3), (1,)), [0, 1]), ((1, 3), (1,)))
        self.same(renamed_table(Slab([(5, 5)], 5), ((1,),), [0]), ((1,),))
        table = ((1,), (1, 2), (), (4,), (1, 5), (2,))
        self.same(renamed_table(SIX, table, [5, 3, 1, 0, 2, 4]), ((2,), (4,), (1, 2), (1,), (), (1, 5)))
        three = Slab([(1, 1), (2, 2), (3, 3)], 20)
        self.same(renamed_table(three, ((1,), (2, 2), (3,)), [2, 0, 1]), ((3,), (1,), (2, 2)))

    def test_the_table_goes_with_the_slab(self):
        for slab in MORE:
            for order in itertools.permutations(range(len(slab))):
                other = renamed(slab, list(order))
                for table in proper(slab):
                    check_table(other, renamed_table(slab, table, list(order)))

    def test_what_is_no_order(self):
        orders = ODD_VALUES + ODD_TUPLES + [0, (0, 1), (1, 0), {0: 1, 1: 0}, {0, 1}, "01", [], [0], [1], [0, 1, 2]]
        orders += [[0, 0], [1, 1], [1, 2], [-1, 0], [0, -1], [2, 1], [0, True], [False, 1], [True, False], [1, 0, 1]]
        orders += [[0, odd] for odd in NO_INTEGERS] + [[odd, odd] for odd in NO_INTEGERS] + [[0, 10 ** 30]]
        for order in orders:
            self.raises(NoClass(order), renamed, SMALL, order)
            self.raises(NoClass(order), renamed_table, SMALL, ((1,), ()), order)
        six = [[0, 1, 2, 3, 4], [0, 1, 2, 3, 4, 4], [0, 1, 2, 3, 4, 5, 6], [1, 2, 3, 4, 5, 6], [0, 0, 1, 2, 3, 4]]
        for order in six:
            self.raises(NoClass(order), renamed, SIX, order)
            self.raises(NoClass(order), renamed_table, SIX, ((),) * 6, order)
        for order in ([], [1], [-1], [False], [0, 0], [None]):
            self.raises(NoClass(order), renamed, Slab([(1, 1)], 1), order)

    def test_merged(self):
        twice = Slab([(1, 10), (1, 10)], 11)
        self.same(merged(twice, ((1, 1), (1,)), 0, 1), ((1, 1, 1), ()))
        self.same(merged(twice, ((1, 1), (1,)), 1, 0), ((), (1, 1, 1)))
        self.same(merged(ALIKE, ((1, 3), (1, 2), (2, 3), (1,), ()), 0, 2), ((1, 2, 3, 3), (1, 2), (), (1,), ()))
        self.same(merged(ALIKE, ((1, 3), (1, 2), (2, 3), (1,), ()), 2, 0), ((), (1, 2), (1, 2, 3, 3), (1,), ()))
        self.same(merged(ALIKE, ((), (), (2, 3), (), ()), 0, 2), ((2, 3), (), (), (), ()))
        self.same(merged(ALIKE, ((2, 3), (), (), (), ()), 0, 2), ((2, 3), (), (), (), ()))
        self.same(merged(ALIKE, ((),) * 5, 2, 0), ((),) * 5)
        self.same(merged(WIDE, ((1,) * 30, (2,) * 30), 0, 1), ((1,) * 30 + (2,) * 30, ()))

    def test_classes_that_cannot_be_merged(self):
        table = ((1,), (1,), (1,), (1,), (1,))
        # Class 3 differs from class 0 only in slots, class 4 from class 1, and from class 0 only in size.
        for one, other in ((0, 1), (0, 3), (3, 0), (0, 4), (4, 0), (1, 4), (4, 1), (2, 3), (2, 4), (1, 2)):
            self.raises(NoClass(other), merged, ALIKE, table, one, other)
        for number in range(5):
            self.raises(NoClass(number), merged, ALIKE, table, number, number)
        for odd in NO_INTEGERS + [-1, 5, 10 ** 30]:
            self.raises(NoClass(odd), merged, ALIKE, table, odd, 0)
            self.raises(NoClass(odd), merged, ALIKE, table, odd, 9)
            self.raises(NoClass(odd), merged, ALIKE, table, odd, odd)
            self.raises(NoClass(odd), merged, ALIKE, table, 0, odd)
            self.raises(NoClass(odd), merged, ALIKE, table, 2, odd)
            self.raises(NoClass(7), merged, ALIKE, table, 7, odd)

    def test_thinned(self):
        self.same(thinned(SMALL, ((1, 3), (1,))), ((1, 1), (1,)))
        self.same(thinned(SMALL, ((4,), ())), ((1,), ()))
        self.same(thinned(SMALL, ((), ())), ((), ()))
        self.same(thinned(WIDE, ((60,) * 30, (1,) * 29 + (2,))), ((1,) * 30, (1,) * 30))

    def test_without_page(self):
        self.same(without_page(SMALL, ((1, 3), (1,)), 0), ((3,), (1,)))
        self.same(without_page(SMALL, ((1, 3), (1,)), 1), ((1, 3), ()))
        self.same(without_page(SMALL, ((2, 2), ()), 0), ((2,), ()))
        self.same(without_page(SMALL, ((), (1, 2)), 1), ((), (2,)))
        self.same(without_page(WIDE, ((1,) * 30, (1,) * 29 + (2,)), 1), ((1,) * 30, (1,) * 28 + (2,)))

    def test_classes_without_pages(self):
        self.raises(NoClass(1), without_page, SMALL, ((1, 3), ()), 1)
        self.raises(NoClass(0), without_page, SMALL, ((), (1,)), 0)
        self.raises(NoClass(0), without_page, SMALL, ((), ()), 0)
        for odd in NO_INTEGERS + [-1, -2, 2, 10 ** 30]:
            self.raises(NoClass(odd), without_page, SMALL, ((1,), (1,)), odd)
            self.raises(NoClass(odd), without_page, SMALL, ((), ()), odd)

    def test_what_is_no_table(self):
        calls = [
            (renamed_table, [0, 1]), (renamed_table, [0, 0]), (renamed_table, None), (merged, 0, 0), (merged, None, 9),
            (thinned,), (without_page, 0), (without_page, 9), (without_page, None),
        ]
        for call, *others in calls:
            for table in ODD_VALUES + ODD_LISTS + [0, (), (1,), ((),), ((), (), ()), [(), ()], "ab"]:
                self.raises(NoTable(-1), call, SMALL, table, *others)
            for counts in ODD_VALUES + ODD_LISTS + [1, (0,), (5,), (2, 1), (True,), (None,), ((1,),)]:
                self.raises(NoTable(0), call, SMALL, (counts, ()), *others)
                self.raises(NoTable(1), call, SMALL, ((1,), counts), *others)
            self.raises(NoTable(2), call, WIDE, ((1,) * 60, (1,)), *others)
            self.raises(NoTable(3), call, SMALL, ((4, 4), ()), *others)


class Arising(Case):
    def test_a_greater_limit(self):
        for slab in MORE:
            for table, pins in pinned(slab):
                if arises(slab, table, pins):
                    for more in (1, 2, 10 ** 5):
                        self.assertTrue(arises(with_limit(slab, slab.limit() + more), table, pins))

    def test_multiplied_sizes(self):
        for slab in MORE:
            others = [scaled(slab, factor) for factor in (1, 2, 7, 100)]
            for table, pins in pinned(slab):
                first = order_of(slab, table, pins=pins)
                for other in others:
                    self.same(order_of(other, table, pins=pins)[0], first[0])

    def test_a_further_class(self):
        for slab in MORE:
            other = with_class(slab, 3, 2)
            for table, pins in pinned(slab):
                self.assertEqual(arises(slab, table, pins), arises(other, table + ((),), pins + ((),)))

    def test_renamed_classes(self):
        for slab in MORE:
            for order in itertools.permutations(range(len(slab))):
                other = renamed(slab, list(order))
                for table, pins in pinned(slab):
                    names = [renamed_table(slab, rows, list(order)) for rows in (table, pins)]
                    self.assertEqual(arises(slab, table, pins), arises(other, *names))

    def test_merged_classes(self):
        apart = 0
        for slab in [Slab([(1, 2), (1, 2)], 6), Slab([(1, 3), (1, 3)], 7), Slab([(1, 2), (2, 1), (1, 2)], 5)]:
            last = len(slab) - 1
            for table in proper(slab):
                for one, other in ((0, last), (last, 0)):
                    found = arises(slab, merged(slab, table, one, other))
                    self.assertTrue(arises(slab, table) or not found)
                    apart += arises(slab, table) and not found
        # The other way round it does not always hold.
        self.assertGreater(apart, 0)
        twice = Slab([(1, 10), (1, 10)], 11)
        self.assertTrue(arises(twice, ((1, 1), (1,))))
        self.assertFalse(arises(twice, merged(twice, ((1, 1), (1,)), 0, 1)))

    def test_thinned_tables(self):
        for slab in MORE:
            for table in proper(slab):
                self.assertEqual(arises(slab, table), arises(slab, thinned(slab, table)))

    def test_a_page_less(self):
        for slab in MORE:
            for table in proper(slab):
                if arises(slab, table):
                    for number, counts in enumerate(table):
                        if counts:
                            self.assertTrue(arises(slab, without_page(slab, table, number)))


class Kept(Case):
    def test_arguments_are_not_changed(self):
        slab, table, order = Slab([(1, 4), (1, 4)], 9), ((1, 3), (2,)), [1, 0]
        before = copy.deepcopy((slab.classes(), slab.limit(), table, order))
        for found in (with_class(slab, 2, 2), with_limit(slab, 4), scaled(slab, 3), renamed(slab, order)):
            self.assertIsNot(found, slab)
        renamed_table(slab, table, order)
        merged(slab, table, 1, 0)
        thinned(slab, table)
        without_page(slab, table, 0)
        self.same((slab.classes(), slab.limit(), table, order), before)

    def test_refused_arguments_are_not_changed(self):
        for order in ([1, 1], [0, [1]], {0: [1]}):
            kept = copy.deepcopy(order)
            with self.assertRaises(NoClass) as caught:
                renamed(SMALL, order)
            self.assertIs(caught.exception.number, order)
            self.same(order, kept)

    def test_later_changes_change_nothing(self):
        order = [1, 0]
        slab = renamed(SMALL, order)
        table = renamed_table(SMALL, ((1,), (1, 2)), order)
        order[0] = 0
        self.same(slab.classes(), [(2, 2), (1, 4)])
        self.same(table, ((1, 2), (1,)))
        slab.classes().clear()
        with_class(SMALL, 3, 3).classes().clear()
        self.same(slab.classes(), [(2, 2), (1, 4)])
        self.same(SMALL.classes(), [(1, 4), (2, 2)])

    def test_equal_arguments_give_equal_results(self):
        for turn in range(2):
            slab = Slab([(1, 4), (2, 2)], 7)
            self.assertTrue(with_class(slab, 3, 3) == with_class(SMALL, 3, 3))
            self.assertTrue(with_limit(slab, 3) == with_limit(SMALL, 3))
            self.assertTrue(scaled(slab, 3) == scaled(SMALL, 3))
            self.assertTrue(renamed(slab, [1, 0]) == renamed(SMALL, [1, 0]))
            self.same(renamed_table(slab, ((1,), ()), [1, 0]), renamed_table(SMALL, ((1,), ()), [1, 0]))
            self.same(thinned(slab, ((1, 2), ())), thinned(SMALL, ((1, 2), ())))
            self.same(without_page(slab, ((1, 2), ()), 0), without_page(SMALL, ((1, 2), ()), 0))

    def test_arguments_by_name(self):
        self.assertTrue(with_class(slots=5, size=3, slab=SMALL) == with_class(SMALL, 3, 5))
        self.assertTrue(with_limit(limit=9, slab=SMALL) == with_limit(SMALL, 9))
        self.assertTrue(scaled(factor=2, slab=SMALL) == scaled(SMALL, 2))
        self.assertTrue(renamed(order=[1, 0], slab=SMALL) == renamed(SMALL, [1, 0]))
        self.same(renamed_table(order=[1, 0], table=((1,), ()), slab=SMALL), ((), (1,)))
        table = ((1,), (), (2,), (), ())
        self.same(merged(other=2, one=0, table=table, slab=ALIKE), ((1, 2), (), (), (), ()))
        self.same(thinned(table=((2,), ()), slab=SMALL), ((1,), ()))
        self.same(without_page(number=0, table=((2,), ()), slab=SMALL), ((), ()))

    def test_functions_are_defined_in_this_module(self):
        self.defined(changes, {
            "with_class": "(slab, size, slots)", "with_limit": "(slab, limit)", "scaled": "(slab, factor)",
            "renamed": "(slab, order)", "renamed_table": "(slab, table, order)",
            "merged": "(slab, table, one, other)", "thinned": "(slab, table)",
            "without_page": "(slab, table, number)",
        })
