"""Points 50, 51 and 52, and points 2 to 4 for the search."""

import copy

from slabpins import search
from slabpins.arising import order_of
from slabpins.errors import NoPins, NoTable, TooMany
from slabpins.limits import least_limit
from slabpins.schedules import schedule
from slabpins.search import all_arising, fewest_steps, page_numbers
from slabpins.slabs import Slab
from slabpins.tables import empty
from tests.model import SLABS, after, distances, has, is_table, tables_of
from tests.support import NO_INTEGERS, ODD_LISTS, ODD_TUPLES, ODD_VALUES, Case

SMALL = Slab([(1, 4), (2, 2)], 7)
WIDE = Slab([(1, 60), (1, 2)], 10 ** 6)
MORE = SLABS + [
    SMALL, Slab([(1, 4), (2, 2)], 6), Slab([(1, 3), (2, 2)], 6), Slab([(1, 1), (1, 3)], 5), Slab([(2, 2), (3, 2)], 11),
    Slab([(1, 2), (1, 1), (1, 2), (2, 2)], 5), Slab([(3, 2)], 2), Slab([(1, 1), (2, 1)], 0), Slab([(1, 2)] * 3, 5),
]


class Checked(Case):
    def tables(self, slab, expected, pins=None):
        self.same(all_arising(slab, pins=pins, most=len(expected)), expected)
        numbers = sorted({tuple(map(len, table)) for table in expected})
        self.same(page_numbers(slab, pins=pins, most=len(expected)), numbers)

    def follow(self, slab, table, pins, many):
        """Checks that these are possible steps past tables that have the pins, and so many of them."""
        row = fewest_steps(slab, table, pins=pins)
        self.assertIsInstance(row, list)
        way = empty(slab) if pins is None else pins
        for step in row:
            self.assertEqual([type(part) for part in step], [str, int, int])
            way = after(slab, way, step)
            self.assertIsNotNone(way)
            self.assertTrue(pins is None or has(way, pins))
        self.same(way, table)
        self.same(len(row), many)


class Found(Checked):
    def test_ordinary_slabs(self):
        self.tables(Slab([(1, 2)], 3), [((),), ((1,),), ((1, 1),), ((1, 2),), ((2,),)])
        self.tables(Slab([(1, 2)], 3), [((1, 2),), ((2,),)], ((2,),))
        self.tables(Slab([(1, 1), (2, 1)], 3), [((), ()), ((), (1,)), ((1,), ()), ((1,), (1,)), ((1, 1), ()),
                                                ((1, 1, 1), ())])
        self.same(page_numbers(Slab([(1, 9)], 9)), [(0,), (1,)])
        self.same(page_numbers(Slab([(1, 9)], 10)), [(0,), (1,), (2,)])
        self.same(page_numbers(SMALL), [(0, 0), (0, 1), (0, 2), (1, 0), (1, 1), (1, 2), (2, 0), (2, 1)])

    def test_only_the_pins(self):
        self.tables(Slab([(1, 1)], 0), [((),)])
        self.tables(Slab([(3, 2)] * 6, 2), [((),) * 6])
        self.tables(Slab([(3, 2)], 3), [((1,),)], ((1,),))
        self.tables(Slab([(1, 1)], 10 ** 6), [((1,) * 60,)], ((1,) * 60,))
        self.tables(Slab([(1, 2), (1, 3)], 60), [((1,) * 30, (1,) * 30)], ((1,) * 30, (1,) * 30))
        for table in (((4,), (1,)), ((1, 1), (1, 1))):
            self.same(fewest_steps(Slab(SMALL.classes(), 6), table, pins=table), [])

    def test_pins_need_not_arise(self):
        self.assertEqual(order_of(SMALL, ((1, 1), (1, 1)))[0], "stuck")
        self.tables(SMALL, [((1, 1), (1, 1)), ((1, 2), (1, 1))], ((1, 1), (1, 1)))
        self.follow(SMALL, ((1, 2), (1, 1)), ((1, 1), (1, 1)), 1)

    def test_sixty_pages(self):
        self.same(page_numbers(Slab([(1, 1)], 61)), [(many,) for many in range(61)])
        self.same(len(all_arising(Slab([(1, 1)], 10 ** 6), most=61)), 61)
        self.same(all_arising(Slab([(1, 60)], 60), pins=((1,) * 60,)), [((1,) * 60,)])
        self.same(len(all_arising(Slab([(1, 60)], 63), pins=((1,) * 60,))), 1 + 1 + 2 + 3)
        pins = ((1,) * 59, ())
        self.same(page_numbers(Slab(WIDE.classes(), 60), pins=pins), [(59, 0), (59, 1)])
        self.same(page_numbers(Slab(WIDE.classes(), 59), pins=pins), [(59, 0)])
        self.tables(Slab([(1, 1), (2, 1)], 122), [pins, ((1,) * 59, (1,)), ((1,) * 60, ())], pins)
        self.follow(Slab([(1, 60), (1, 2)], 70), ((1,) * 59, (2,)), pins, 2)
        self.assertIsNone(fewest_steps(Slab([(1, 60), (1, 2)], 70), ((1,) * 60, ()), pins=pins))

    def test_ways_that_are_not_straight(self):
        self.follow(Slab([(1, 4)], 5), ((1, 1),), None, 8)
        self.follow(Slab([(1, 4)], 5), ((1, 4),), None, 5)
        self.follow(Slab([(1, 4)], 9), ((1, 1, 3),), ((3,),), 1 + 1 + 3 + 1 + 1 + 3)
        self.follow(SMALL, ((), ()), None, 0)
        # Class 1 goes first although class 0 has the smaller number.
        self.follow(Slab(SMALL.classes(), 6), ((1,), (1, 1)), None, 2 + 1 + 1 + 1)
        # A page that is given back on the way does not have the pins.
        self.follow(Slab([(1, 2)], 4), ((2, 2),), ((1, 1),), 2)

    def test_tables_that_do_not_arise(self):
        self.assertIsNone(fewest_steps(SMALL, ((1, 1), (1, 1))))
        self.assertIsNone(fewest_steps(Slab([(3, 4)], 14), ((1, 1),)))
        self.assertIsNone(fewest_steps(Slab([(1, 4), (2, 5)], 10), ((1, 1), (3,)), pins=((), (3,))))

    def test_pins_none_and_pins_without_pages(self):
        for slab in MORE:
            nothing = empty(slab)
            self.same(all_arising(slab, pins=nothing), all_arising(slab))
            self.same(all_arising(slab, pins=None), all_arising(slab))
            self.same(page_numbers(slab, pins=nothing), page_numbers(slab, pins=None))
            for table in all_arising(slab):
                first = fewest_steps(slab, table)
                self.same(fewest_steps(slab, table, pins=nothing), first)
                self.same(fewest_steps(slab, table, pins=None), first)


class Reached(Checked):
    def test_all_tables_by_all_possible_steps(self):
        for slab in MORE:
            tables = [table for table in tables_of(slab) if is_table(slab, table)]
            for pins in tables:
                found = distances(slab, pins)
                self.tables(slab, sorted(found), pins)
                for table in tables:
                    if has(table, pins):
                        # Just these arise by the orders of point 14.
                        word = order_of(slab, table, pins=pins)[0]
                        self.assertEqual(word, "order" if table in found else "stuck")

    def test_the_fewest_steps(self):
        for slab in MORE:
            tables = [table for table in tables_of(slab) if is_table(slab, table)]
            for at, pins in enumerate(tables):
                if at % 7 == 0 or len(tables) < 40:
                    self.compare(slab, tables, pins)

    def compare(self, slab, tables, pins):
        found = distances(slab, pins)
        for table in tables:
            if table in found:
                self.follow(slab, table, pins, found[table])
                self.assertGreaterEqual(len(schedule(slab, table, pins=pins)), found[table])
            elif has(table, pins):
                self.assertIsNone(fewest_steps(slab, table, pins=pins))
            else:
                self.raises(NoPins(pins), fewest_steps, slab, table, pins=pins)

    def test_larger_slabs(self):
        for slab, pins in (
            (Slab([(1, 4), (2, 3), (5, 2)], 16), None), (Slab([(2, 5), (3, 4)], 29), None),
            (Slab([(1, 2)] * 6, 5), None), (Slab([(1, 6), (2, 3)], 21), ((2, 3), (1,))),
            (Slab([(1, 9)], 14), ((2, 4),)), (Slab([(3, 3), (1, 5), (3, 3)], 18), ((), (2, 2), (1,))),
        ):
            found = distances(slab, empty(slab) if pins is None else pins)
            self.same(all_arising(slab, pins=pins, most=10 ** 5), sorted(found))
            for table in sorted(found)[::len(found) // 9]:
                row = fewest_steps(slab, table, pins=pins, most=10 ** 5)
                self.same(len(row), found[table])

    def test_just_the_tables_within_the_least_limit(self):
        for classes, limit in ((SMALL.classes(), 8), ([(1, 2), (2, 1), (3, 2)], 8), ([(2, 3), (1, 4)], 9)):
            for less in range(limit + 1):
                slab = Slab(classes, less)
                found = all_arising(slab)
                for table in tables_of(slab):
                    self.assertEqual(table in found, least_limit(classes, table)[0] <= less)


class Most(Checked):
    def test_just_as_many_tables_and_one_less(self):
        for slab in MORE:
            for pins in all_arising(slab)[::3]:
                many = len(all_arising(slab, pins=pins))
                self.same(len(all_arising(slab, pins=pins, most=many)), many)
                for most in (0, many // 2, many - 1):
                    self.too_many(most, slab, pins, pins)
                self.same(fewest_steps(slab, pins, pins=pins, most=many), [])
                self.same(page_numbers(slab, pins=pins, most=many), page_numbers(slab, pins=pins))

    def too_many(self, most, slab, table, pins):
        self.raises(TooMany(most), all_arising, slab, pins=pins, most=most)
        self.raises(TooMany(most), page_numbers, slab, pins=pins, most=most)
        self.raises(TooMany(most), fewest_steps, slab, table, pins=pins, most=most)

    def test_a_thousand_if_none_is_passed(self):
        for slab, many in ((Slab([(1, 4), (4, 3)], 23), 1000), (Slab([(1, 2), (6, 3)], 37), 1001)):
            self.same(len(distances(slab, empty(slab))), many)
            self.same(len(all_arising(slab, most=many)), many)
            self.too_many(many - 1, slab, empty(slab), None)
        exact, more = Slab([(1, 4), (4, 3)], 23), Slab([(1, 2), (6, 3)], 37)
        self.same(len(all_arising(exact)), 1000)
        self.same(page_numbers(exact), page_numbers(exact, most=1001))
        self.follow(exact, ((4,), (3,)), None, 7)
        self.raises(TooMany(1000), all_arising, more)
        self.raises(TooMany(1000), page_numbers, more)
        self.raises(TooMany(1000), fewest_steps, more, ((2,), (3,)))

    def test_all_tables_count_not_their_numbers_of_pages(self):
        self.same(page_numbers(Slab([(1, 9)], 9), most=10), [(0,), (1,)])
        self.raises(TooMany(9), page_numbers, Slab([(1, 9)], 9), most=9)
        self.raises(TooMany(2), page_numbers, Slab([(1, 9)], 9), most=2)

    def test_too_many_although_the_table_is_near_or_does_not_arise(self):
        self.raises(TooMany(1000), fewest_steps, WIDE, ((1,), ()))
        self.raises(TooMany(1000), fewest_steps, WIDE, ((), ()))
        self.raises(TooMany(5), fewest_steps, SMALL, ((1, 1), (1, 1)), most=5)

    def test_great_slabs(self):
        for slab in (WIDE, Slab([(1000, 60)] * 6, 10 ** 6), Slab([(1, 1)] * 6, 60), Slab([(1, 60)] * 6, 3000)):
            for most in (0, 1, 1000):
                self.too_many(most, slab, empty(slab), None)
        pins = ((1,) * 30, (1,) * 29)
        self.too_many(1000, WIDE, pins, pins)


class Errors(Checked):
    def refused(self, error, slab, table, pins):
        for most in (0, 1, 1000):
            self.raises(error, fewest_steps, slab, table, pins=pins, most=most)

    def test_pins_that_are_no_table(self):
        odd = [value for value in ODD_VALUES if value is not None]
        wrong = odd + ODD_LISTS + ODD_TUPLES + [0, 1, ((),), ((), (), ()), [(), ()], "ab", ((2, 1), ()), ((4, 4), ())]
        wrong += [((item,), ()) for item in NO_INTEGERS + [0, -1, 5]] + [((), item) for item in ODD_VALUES + ODD_LISTS]
        for pins in wrong:
            for most in (0, 1, 1000):
                self.raises(NoPins(pins), all_arising, SMALL, pins=pins, most=most)
                self.raises(NoPins(pins), page_numbers, SMALL, pins=pins, most=most)
            self.refused(NoPins(pins), SMALL, ((1, 1), (1,)), pins)
            self.refused(NoPins(pins), SMALL, ((), ()), pins)
        for pins in (((1,) * 61, ()), ((1,) * 60, (1,))):
            self.raises(NoPins(pins), all_arising, WIDE, pins=pins)
            self.raises(NoPins(pins), page_numbers, WIDE, pins=pins)

    def test_pins_that_the_table_does_not_have(self):
        for table, pins in ((((1,), ()), ((1, 1), ())), (((1,), ()), ((2,), ())), (((2, 2), ()), ((3,), ())),
                            (((1, 3), ()), ((2, 2), ())), (((), ()), ((), (1,)))):
            self.refused(NoPins(pins), SMALL, table, pins)

    def test_what_is_no_table(self):
        for table in ODD_VALUES + ODD_LISTS + [0, (), (1,), ((),), ((), (), ()), [(), ()], "ab"]:
            self.refused(NoTable(-1), SMALL, table, None)
            self.refused(NoTable(-1), SMALL, table, 7)
        for counts in ODD_VALUES + ODD_LISTS + [1, (0,), (5,), (2, 1), (True,), (None,)]:
            self.refused(NoTable(0), SMALL, (counts, ()), ((4, 4), ()))
            self.refused(NoTable(1), SMALL, ((1,), counts), None)
        self.refused(NoTable(2), WIDE, ((1,) * 60, (1,)), None)
        self.refused(NoTable(3), SMALL, ((4, 4), ()), [])


class Kept(Checked):
    def test_arguments_are_not_changed(self):
        slab, table, pins = Slab([(1, 4), (2, 2)], 9), ((1, 3), (1,)), ((3,), ())
        before = copy.deepcopy((slab.classes(), slab.limit(), table, pins))
        all_arising(slab, pins=pins)
        fewest_steps(slab, table, pins=pins)
        page_numbers(slab, pins=pins)
        self.raises(TooMany(1), all_arising, slab, pins=pins, most=1)
        self.same((slab.classes(), slab.limit(), table, pins), before)
        wrong = ([3, 1], {0: [1]})
        with self.assertRaises(NoPins) as caught:
            all_arising(slab, pins=wrong)
        self.assertIs(caught.exception.pins, wrong)
        self.same(wrong, ([3, 1], {0: [1]}))

    def test_changed_results_change_nothing(self):
        for call, arguments in ((all_arising, (SMALL,)), (page_numbers, (SMALL,)), (fewest_steps, (SMALL, ((2,), ())))):
            found = call(*arguments)
            kept = list(found)
            found.clear()
            self.same(call(*arguments), kept)
        none = fewest_steps(SMALL, ((), ()))
        none.append(None)
        self.same(fewest_steps(SMALL, ((), ())), [])

    def test_equal_arguments_give_equal_results(self):
        for limit in (7, 9):
            for pins in (None, ((1,), ()), ((1, 1), (1,))):
                results = []
                for turn in range(2):
                    classes = [(1, 4), (2, 2)]
                    slab = Slab(classes, limit)
                    classes.clear()
                    table = ((1, 1), (1,))
                    results.append([all_arising(slab, pins=pins), page_numbers(slab, pins=pins),
                                    fewest_steps(slab, table, pins=pins)])
                    all_arising(Slab([(1, 1)], 3))
                self.same(results[0], results[1])

    def test_arguments_by_name(self):
        pins = ((1,), ())
        self.same(all_arising(most=500, pins=pins, slab=SMALL), all_arising(SMALL, pins=pins))
        self.same(page_numbers(most=500, pins=pins, slab=SMALL), page_numbers(SMALL, pins=pins))
        found = fewest_steps(most=500, pins=pins, table=((1, 1), ()), slab=SMALL)
        self.same(found, fewest_steps(SMALL, ((1, 1), ()), pins=pins))
        for call, arguments in ((all_arising, (SMALL,)), (page_numbers, (SMALL,)), (fewest_steps, (SMALL, ((), ())))):
            with self.assertRaises(TypeError):
                call(*arguments, None)

    def test_functions_are_defined_in_this_module(self):
        self.defined(search, {
            "all_arising": "(slab, *, pins=None, most=1000)",
            "fewest_steps": "(slab, table, *, pins=None, most=1000)",
            "page_numbers": "(slab, *, pins=None, most=1000)",
        })
