"""Points 22, 23 and 24, and points 2 and 3 for least limits."""

import copy
import itertools

from slabpins import limits
from slabpins.arising import order_of
from slabpins.errors import NoCertificate, NoPins, NoSlab, NoTable, Stuck
from slabpins.limits import check_limit, least_limit, most_beside
from slabpins.schedules import schedule
from slabpins.slabs import Slab
from slabpins.tables import played
from tests.model import further, held, least, shown, unlimited
from tests.support import NO_INTEGERS, ODD_LISTS, ODD_TUPLES, ODD_VALUES, Case

PAIR = [(1, 4), (2, 2)]
SMALL = Slab(PAIR, 7)
WIDE = [(1, 60), (1, 2)]
WRONG = [(8, (0, 1)), (0, ()), None, (8, (0, 0)), (True, ()), [8, ()]]


def nothing(classes):
    return ((),) * len(classes)


class Checked(Case):
    def fits(self, classes, table, pins=None):
        """Compares the answer with all orders, and what the least limit says with order_of."""
        answer = least_limit(classes, table, pins=pins)
        self.assertEqual([type(part) for part in answer], [int, tuple])
        limit, numbers = answer
        pinned = nothing(classes) if pins is None else pins
        self.same(limit, least(classes, table, pinned))
        self.same(numbers, tuple(sorted(set(numbers))))
        self.same(shown(classes, table, pinned, numbers), limit)
        live = held(Slab(classes, 10 ** 6), table)
        self.assertEqual(numbers == (), live == limit)
        self.assertTrue(set(numbers) <= set(further(table, pinned)))
        for order in itertools.permutations(numbers):
            self.assertIsNone(check_limit(classes, table, (limit, order), pins=pins))
        if limit <= 10 ** 6:
            self.arises(Slab(classes, limit), table, pins)
        if live < limit <= 10 ** 6 + 1:
            self.raises(Stuck(self.stuck(Slab(classes, limit - 1), table, pins)), schedule,
                        Slab(classes, limit - 1), table, pins=pins)
        elif 0 < live == limit:
            self.raises(NoTable(len(classes) + 1), order_of, Slab(classes, limit - 1), table, pins=pins)
        return answer

    def arises(self, slab, table, pins):
        self.assertEqual(order_of(slab, table, pins=pins)[0], "order")
        self.same(played(slab, pins or nothing(slab.classes()), schedule(slab, table, pins=pins)), table)

    def stuck(self, slab, table, pins):
        word, numbers = order_of(slab, table, pins=pins)
        self.assertEqual(word, "stuck")
        return numbers

    def refused(self, error, classes, table, pins=None):
        self.raises(error, least_limit, classes, table, pins=pins)
        for answer in WRONG:
            self.raises(error, check_limit, classes, table, answer, pins=pins)


class Least(Checked):
    def test_ordinary_tables(self):
        self.same(self.fits(PAIR, ((1, 1), (1, 1))), (8, (0, 1)))
        self.same(self.fits([(1, 4)], ((1, 1, 3),), ((3,),)), (9, (0,)))
        self.same(self.fits([(3, 4)], ((1, 1),)), (15, (0,)))
        self.same(self.fits([(5, 2), (1, 2)], ((1, 1), (1,))), (15, (0,)))

    def test_the_live_bytes_are_the_least_limit(self):
        self.same(self.fits(PAIR, ((4, 4), ())), (8, ()))
        self.same(self.fits(PAIR, ((), ())), (0, ()))
        self.same(self.fits([(3, 4)], ((1, 4),)), (15, ()))
        self.same(self.fits([(3, 4)], ((2, 4),)), (18, ()))
        self.same(self.fits([(3, 4)], ((2, 2),)), (15, (0,)))
        self.same(self.fits([(7, 1), (5, 1)], ((1, 1), (1,))), (19, ()))
        self.same(self.fits(WIDE, ((1,), (1,))), (2, ()))

    def test_no_further_pages(self):
        for table in (((1, 1), (1, 1)), ((1, 4), (1,)), ((), ()), ((2,), (1, 2, 2))):
            self.same(self.fits(PAIR, table, table), (held(SMALL, table), ()))
        self.same(self.fits(PAIR, ((1, 4), (1,)), ((1, 3), (1,))), (7, ()))
        self.same(self.fits(WIDE, ((1,) * 60, ()), ((1,) * 60, ())), (60, ()))

    def test_pins(self):
        self.same(self.fits(PAIR, ((1, 1), (1, 1)), ((1, 1), ())), (8, (1,)))
        self.same(self.fits([(1, 4), (2, 5)], ((1, 1), (3,)), ((), (3,))), (11, (0,)))
        self.same(self.fits([(1, 4), (2, 3)], ((1, 2), (1, 2)), ((2,), (1, 1))), (9, ()))
        self.same(self.fits([(1, 4), (2, 3)], ((1, 2), (1, 2)), ((2,), (1, 2))), (11, (0,)))

    def test_pins_none_and_pins_without_pages(self):
        for table in (((1, 1), (1, 1)), ((4, 4), ()), ((), ())):
            first = least_limit(PAIR, table)
            self.same(least_limit(PAIR, table, pins=None), first)
            self.same(least_limit(PAIR, table, pins=((), ())), first)
            for pins in (None, ((), ())):
                self.assertIsNone(check_limit(PAIR, table, first, pins=pins))

    def test_sixty_pages(self):
        self.same(self.fits([(1, 60)], ((1,) * 60,)), (59 * 60 + 1, (0,)))
        self.same(self.fits([(1, 60)], ((60,) * 60,)), (3600, ()))
        self.same(self.fits([(1, 60)], ((1,) * 60,), ((1,) * 59,)), (59 * 60 + 1, (0,)))
        self.same(self.fits([(1, 1)] * 6, ((1,) * 10,) * 6), (60, ()))
        self.fits([(1, 60), (1000, 60)], ((1,) * 50, (1,) * 10))
        self.fits(WIDE, ((1,) * 59, (1,)), ((1,) * 30, ()))

    def test_above_the_greatest_limit(self):
        self.same(self.fits([(1000, 60)], ((1,) * 17,)), (961000, (0,)))
        self.same(self.fits([(1000, 60)], ((1,) * 18,)), (1021000, (0,)))
        self.same(self.fits([(1000, 60)], ((1,) * 60,)), (59 * 60000 + 1000, (0,)))
        self.same(self.fits([(1000, 60)] * 6, ((1,) * 10,) * 6), (591000, (0, 1, 2, 3, 4, 5)))
        self.same(self.fits([(1000, 60)] * 2, ((1,) * 30,) * 2), (1771000, (0, 1)))

    def test_just_the_greatest_limit_and_its_neighbours(self):
        # The pages of class 0 are 27 full ones and one more object: 999,000 bytes.
        for count, limit in ((39, 10 ** 6 - 1), (40, 10 ** 6), (41, 10 ** 6 + 1)):
            pins = ((), (count,) + (60,) * 16)
            answer = self.fits([(999, 37), (1, 60)], ((1,) * 28, pins[1]), pins)
            self.same(answer, (limit, (0,)))

    def test_live_bytes_at_the_greatest_limit(self):
        self.same(self.fits([(1000, 60)], ((40,) + (60,) * 16,)), (10 ** 6, ()))
        self.refused(NoTable(2), [(1000, 60)], ((41,) + (60,) * 16,))

    def test_six_classes_in_every_order(self):
        # Numbers that look arbitrary, but are the same each time.
        seed = 7
        for case in range(30):
            classes, pins, table = [], [], []
            for number in range(6):
                seed = seed * 1103515245 % 2147483647
                classes.append((seed % 9 + 1, seed // 9 % 8 + 1))
                pins.append((1,) * (seed // 72 % 3 * (case % 2)))
                table.append((1,) * (seed // 216 % 4 + len(pins[-1])))
            self.fits(classes, tuple(table), tuple(pins))


class Answers(Checked):
    def bad(self, index, classes, table, answer, pins=None):
        self.raises(NoCertificate(index), check_limit, classes, table, answer, pins=pins)

    def good(self, classes, table, answer, pins=None):
        self.assertIsNone(check_limit(classes, table, answer, pins=pins))

    def test_the_classes_in_any_order(self):
        self.good(PAIR, ((1, 1), (1, 1)), (8, (0, 1)))
        self.good(PAIR, ((1, 1), (1, 1)), (8, (1, 0)))
        classes, table = [(1, 9), (2, 5), (3, 3)], ((1, 1), (1, 1), (1, 1))
        limit, numbers = least_limit(classes, table)
        self.same(numbers, (0, 1, 2))
        for order in itertools.permutations(numbers):
            self.good(classes, table, (limit, order))

    def test_other_limits(self):
        for table, pins, limit, numbers in (
            (((1, 1), (1, 1)), None, 8, (0, 1)), (((1, 1), (1, 1)), ((1, 1), ()), 8, (1,)), (((4, 4), ()), None, 8, ()),
            (((), ()), None, 0, ()),
        ):
            n = len(numbers)
            self.good(PAIR, table, (limit, numbers), pins)
            for less in (limit - 1, limit - 2, 0 if limit else -7, -1, -10 ** 30):
                self.bad(n, PAIR, table, (less, numbers), pins)
            for greater in (limit + 1, limit + 2, 10 ** 6, 10 ** 6 + 1, 10 ** 30):
                self.bad(n + 1, PAIR, table, (greater, numbers), pins)

    def test_limits_above_the_greatest_one(self):
        classes, table = [(1000, 60)], ((1,) * 18,)
        self.good(classes, table, (1021000, (0,)))
        self.bad(1, classes, table, (1020999, (0,)))
        self.bad(1, classes, table, (10 ** 6, (0,)))
        self.bad(2, classes, table, (1021001, (0,)))
        self.bad(0, classes, table, (1020999, ()))
        self.bad(1, classes, table, (1021000, ()))

    def test_classes_that_show_the_live_bytes(self):
        # Fifteen bytes are live, and just as many are needed for the second page.
        self.same(least_limit([(3, 4)], ((1, 4),)), (15, ()))
        self.good([(3, 4)], ((1, 4),), (15, (0,)))
        self.good([(3, 4)], ((1, 4),), (15, ()))
        self.bad(1, [(3, 4)], ((1, 4),), (14, (0,)))
        self.bad(2, [(3, 4)], ((1, 4),), (16, (0,)))
        self.good([(7, 1), (5, 1)], ((1, 1), (1,)), (19, (0, 1)))
        self.good([(7, 1), (5, 1)], ((1, 1), (1,)), (19, (1, 0)))
        self.bad(2, [(7, 1), (5, 1)], ((1, 1), (1,)), (19, (1,)))

    def test_classes_that_show_less_than_the_live_bytes(self):
        self.good([(3, 4)], ((2, 4),), (18, ()))
        self.bad(2, [(3, 4)], ((2, 4),), (18, (0,)))
        self.bad(1, [(3, 4)], ((2, 4),), (15, (0,)))
        self.bad(1, [(3, 4)], ((2, 4),), (17, (0,)))

    def test_too_few_and_too_many_classes(self):
        self.bad(2, PAIR, ((1, 1), (1, 1)), (8, (0,)))
        self.bad(2, PAIR, ((1, 1), (1, 1)), (8, (1,)))
        self.bad(1, PAIR, ((1, 1), (1, 1)), (8, ()))
        self.good([(5, 2), (1, 2)], ((1, 1), (1,)), (15, (0,)))
        self.bad(3, [(5, 2), (1, 2)], ((1, 1), (1,)), (15, (0, 1)))
        self.bad(2, [(5, 2), (1, 2)], ((1, 1), (1,)), (15, (1,)))

    def test_all_answers(self):
        for classes, tables in (
            (PAIR, [((1, 1), (1, 1)), ((1,), (1, 1)), ((3, 4), (1,)), ((1, 4), ())]),
            ([(3, 2), (2, 2), (1, 5)], [((1, 1), (1,), (1, 1)), ((1, 2), (2,), (5,)), ((1,), (1,), (1,))]),
        ):
            for table in tables:
                for pins in [nothing(classes), (table[0],) + nothing(classes)[1:], (table[0][1:],) + table[1:]]:
                    self.answered(classes, table, pins)

    def answered(self, classes, table, pins):
        first = least_limit(classes, table, pins=pins)[0]
        for many in range(len(classes) + 1):
            for numbers in itertools.product(range(-1, len(classes) + 1), repeat=many):
                for limit in [0, first - 2, first - 1, first, first + 1] + [shown(classes, table, pins, ())]:
                    answer = (limit, numbers)
                    index = unlimited(classes, table, pins, answer)
                    if index is None:
                        self.good(classes, table, answer, pins)
                    else:
                        self.bad(index, classes, table, answer, pins)

    def test_what_is_no_answer(self):
        table = ((1, 1), (1, 1))
        answers = ODD_VALUES + ODD_LISTS + ODD_TUPLES + [8, [8, (0, 1)], (8,), (8, (0, 1), ()), ((0, 1), 8), "8"]
        answers += [(limit, (0, 1)) for limit in NO_INTEGERS]
        answers += [(8, numbers) for numbers in ODD_VALUES + ODD_LISTS + [0, [0, 1], {0: 1}, "01"]]
        answers += [(True, (9,)), (None, None), ("order", (0, 1))]
        for answer in answers:
            self.bad(-1, PAIR, table, answer)
            self.bad(-1, PAIR, table, answer, table)

    def test_numbers_that_are_none_of_a_class(self):
        for limit in (8, 0, 99):
            for odd in NO_INTEGERS + [-1, -2, 2, 10 ** 30, "0", [0], (1,), {0: 0}]:
                self.bad(0, PAIR, ((1, 1), (1, 1)), (limit, (odd,)))
                self.bad(0, PAIR, ((1, 1), (1, 1)), (limit, (odd, odd)))
                self.bad(1, PAIR, ((1, 1), (1, 1)), (limit, (1, odd)))
                self.bad(2, PAIR, ((1, 1), (1, 1)), (limit, (1, 0, odd, 1)))

    def test_classes_without_further_pages(self):
        self.bad(0, PAIR, ((1, 1), ()), (5, (1,)))
        self.bad(1, PAIR, ((1, 1), ()), (5, (0, 1)))
        self.good(PAIR, ((1, 1), ()), (5, (0,)))
        self.bad(0, PAIR, ((1, 1), (1, 1)), (8, (0, 1)), ((1, 1), ()))
        self.bad(1, PAIR, ((1, 1), (1, 1)), (8, (1, 0)), ((1, 1), ()))
        self.bad(0, PAIR, ((1, 1), (1, 1)), (6, (0,)), ((1, 1), (1, 1)))

    def test_repeated_classes(self):
        self.bad(1, PAIR, ((1, 1), (1, 1)), (8, (1, 1)))
        self.bad(2, PAIR, ((1, 1), (1, 1)), (8, (0, 1, 0, 1)))
        self.bad(2, PAIR, ((1, 1), (1, 1)), (8, (0, 1, 1, None)))

    def test_several_errors_at_once(self):
        table = ((1, 1), (1, 1))
        self.bad(-1, PAIR, table, (True, [9]))
        self.bad(0, PAIR, table, (0, (9, 9)))
        self.bad(1, PAIR, table, (-5, (0, 0)))
        self.bad(1, PAIR, table, (7, (0,)))


class Beside(Case):
    def beside(self, slab, table, pins=None):
        """Compares the answer with all numbers of pages of each class."""
        found = most_beside(slab, table, pins=pins)
        pinned = nothing(slab.classes()) if pins is None else pins
        expected = []
        for number in range(len(slab)):
            most = None
            for more in range(0, 61 - sum(map(len, table)) + len(table[number]) - len(pinned[number])):
                rows = [(1,) * (len(row) - len(pin)) + pin for row, pin in zip(table, pinned)]
                rows[number] = (1,) * more + pinned[number]
                if held(slab, rows) <= slab.limit():
                    if least(slab.classes(), tuple(rows), pinned) <= slab.limit():
                        most = len(rows[number])
            expected.append(most)
        self.same(found, expected)
        return found

    def test_ordinary_tables(self):
        self.same(self.beside(SMALL, ((1, 1), (1,))), [2, 1])
        self.same(self.beside(SMALL, ((1, 1), (1, 1))), [1, 1])
        self.same(self.beside(SMALL, ((), ())), [2, 2])
        self.same(self.beside(SMALL, ((3,), (2,))), [2, 2])
        self.same(self.beside(Slab(PAIR, 12), ((1, 1), (1,))), [3, 3])

    def test_only_the_numbers_of_pages_of_the_others_count(self):
        for table in (((1, 1), (1,)), ((1, 2), (1,)), ((1, 3), (1,)), ((1, 1), (2,)), ((1, 4), (1,)), ((1, 2), (2,))):
            self.same(most_beside(SMALL, table), [2, 1])

    def test_no_further_page_is_possible(self):
        self.same(self.beside(Slab([(3, 2)], 2), ((),)), [0])
        self.same(self.beside(Slab([(3, 2), (1, 1)], 2), ((), (1, 1))), [0, 2])
        self.same(self.beside(Slab([(1, 1)] * 6, 0), ((),) * 6), [0] * 6)
        self.same(self.beside(Slab(PAIR, 6), ((4,), (1,)), ((4,), (1,))), [1, 1])

    def test_none(self):
        slab = Slab([(1, 4), (2, 2), (1, 1)], 7)
        self.same(self.beside(slab, ((1, 1), (1, 1), ())), [1, 1, None])
        self.same(self.beside(slab, ((1, 1, 1), (1,), ())), [2, None, None])
        self.same(self.beside(slab, ((1, 1, 1), (1, 1), ())), [1, None, None])
        self.same(self.beside(Slab([(1, 4)] * 3, 4), ((1, 1), (1, 1), ())), [None, None, None])
        self.same(self.beside(Slab([(1, 4)], 4), ((1, 1),)), [1])

    def test_pins(self):
        self.same(self.beside(SMALL, ((1, 1), (1, 1)), ((1, 1), ())), [None, 1])
        self.same(self.beside(Slab(PAIR, 8), ((1, 1), (1, 1)), ((1, 1), ())), [2, 2])
        self.same(self.beside(SMALL, ((1, 1), (1, 1)), ((1, 1), (1, 1))), [2, 2])
        self.same(self.beside(Slab([(1, 4)], 9), ((1, 1, 3),), ((3,),)), [3])
        self.same(self.beside(Slab([(1, 4)], 8), ((1, 1, 3),), ((3,),)), [2])
        # Beside the ten bytes of the pins there is one page of class 0, and it may be in the way of class 1.
        self.same(self.beside(Slab([(1, 4), (2, 5)], 11), ((1,), (5,)), ((), (5,))), [1, 1])
        self.same(self.beside(Slab([(1, 4), (2, 5)], 11), ((), (5,)), ((), (5,))), [1, 1])
        self.same(self.beside(Slab([(1, 4), (2, 5)], 12), ((), (5,)), ((), (5,))), [1, 2])
        self.same(self.beside(Slab([(1, 4), (2, 5)], 12), ((1,), (5,)), ((), (5,))), [1, 1])
        self.same(self.beside(Slab([(1, 4), (2, 5)], 13), ((1,), (5,)), ((), (5,))), [1, 2])

    def test_pins_none_and_pins_without_pages(self):
        for table in (((), ()), ((1, 1), (1,)), ((1, 1), (1, 1))):
            first = most_beside(SMALL, table)
            self.same(most_beside(SMALL, table, pins=None), first)
            self.same(most_beside(SMALL, table, pins=((), ())), first)

    def test_sixty_pages(self):
        wide = Slab(WIDE, 10 ** 6)
        self.same(most_beside(wide, ((1,) * 60, ())), [60, 0])
        self.same(most_beside(wide, ((1,) * 59, (1,))), [59, 1])
        self.same(most_beside(wide, ((1,) * 20, (1,) * 10)), [50, 40])
        self.same(most_beside(wide, ((), ())), [60, 60])
        self.same(most_beside(wide, ((1,) * 60, ()), pins=((1,) * 60, ())), [60, 0])
        self.same(most_beside(wide, ((2,) * 30, (2,) * 20), pins=((1,) * 30, (1,) * 20)), [40, 30])
        for limit, number in ((59, 59), (60, 60), (61, 60)):
            self.same(self.beside(Slab([(1, 1)], limit), ((1,) * 5,)), [number])
        for limit, number in ((58 * 60 + 1, 59), (59 * 60, 59), (59 * 60 + 1, 60)):
            self.same(self.beside(Slab([(1, 60)], limit), ((1,) * 3,)), [number])

    def test_six_classes(self):
        classes = [(9, 4), (7, 1), (3, 20), (1, 60), (2, 33), (11, 5)]
        for limit in (60, 75):
            for table in (((1,),) * 6, ((), (1, 1), (1, 1), (1,), (), (1,))):
                self.beside(Slab(classes, limit), table)
                self.beside(Slab(classes, limit), table, ((),) + table[1:3] + ((),) * 3)


class Errors(Checked):
    def test_classes_and_limits_that_make_no_slab(self):
        for classes in ODD_VALUES + ODD_TUPLES + [7, [], [(1, 1)] * 7, ((1, 4), (2, 2)), {0: (1, 1)}]:
            self.refused(NoSlab(-1), classes, ((), ()))
            self.refused(NoSlab(-1), classes, None, 7)
        for item in NO_INTEGERS + [5, (1, 1, 1), [1, 1], (0, 1), (1001, 1), (1, 0), (1, 61), (True, 1), (1, True)]:
            self.refused(NoSlab(0), [item], ((),))
            self.refused(NoSlab(1), [(1, 1), item, None], None, [])
        self.fits([(1000, 60)] * 6, ((),) * 6)

    def test_tables_that_are_none(self):
        for table in ODD_VALUES + ODD_LISTS + [0, (), ((),), [(), ()], ((1,), (), ())]:
            self.refused(NoTable(-1), PAIR, table)
        for counts in ODD_VALUES + ODD_LISTS + [1, (0,), (5,), (2, 1), (True,), (None,)]:
            self.refused(NoTable(0), PAIR, (counts, ()))
        self.refused(NoTable(1), PAIR, ((4,), (3,)), 7)
        self.refused(NoTable(2), WIDE, ((1,) * 60, (1,)))
        self.refused(NoTable(2), [(1000, 60)], ((60,) * 17,))

    def test_pins(self):
        odd = [value for value in ODD_VALUES if value is not None]
        for pins in odd + ODD_LISTS + ODD_TUPLES + [0, 1, ((),), ((), (), ()), [(), ()], "ab", ((5,), ()), ((0,), ())]:
            self.refused(NoPins(pins), PAIR, ((1, 1), (1,)), pins)
            self.raises(NoPins(pins), most_beside, SMALL, ((1, 1), (1,)), pins=pins)
        for pins in (((1, 1, 1), ()), ((), (2,)), ((2,), (1,)), ((1, 2), ()), ((4, 4, 4, 4), ())):
            self.refused(NoPins(pins), PAIR, ((1, 1), (1,)), pins)
            self.raises(NoPins(pins), most_beside, SMALL, ((1, 1), (1,)), pins=pins)
        self.refused(NoPins(((60,) * 17,)), [(1000, 60)], ((1,) * 17,), ((60,) * 17,))

    def test_most_beside(self):
        for table in ODD_VALUES + ODD_LISTS + [0, (), ((),), [(), ()], ((1,), (), ())]:
            self.raises(NoTable(-1), most_beside, SMALL, table)
            self.raises(NoTable(-1), most_beside, SMALL, table, pins=7)
        self.raises(NoTable(0), most_beside, SMALL, ((0,), (3,)))
        self.raises(NoTable(1), most_beside, SMALL, ((1,), (True,)), pins=[])
        self.raises(NoTable(2), most_beside, Slab(WIDE, 99), ((1,) * 60, (1,)))
        self.raises(NoTable(3), most_beside, SMALL, ((4, 4), ()), pins=((9,), ()))
        self.raises(NoPins(((4, 4), ())), most_beside, SMALL, ((1,), ()), pins=((4, 4), ()))

    def test_several_errors_at_once(self):
        self.refused(NoSlab(-1), None, None, 7)
        self.refused(NoSlab(0), [None, None], None, 7)
        self.refused(NoTable(-1), PAIR, None, 7)
        self.refused(NoPins(7), PAIR, ((), ()), 7)


class Kept(Checked):
    def test_arguments_are_not_changed(self):
        classes, slab, table, pins = [(1, 4), (2, 2)], Slab(PAIR, 12), ((1, 3), (1, 1)), ((3,), (1,))
        before = copy.deepcopy((classes, slab.classes(), slab.limit(), table, pins))
        answer = least_limit(classes, table, pins=pins)
        check_limit(classes, table, answer, pins=pins)
        self.raises(NoCertificate(0), check_limit, classes, table, (0, ()), pins=pins)
        most_beside(slab, table, pins=pins)
        self.same((classes, slab.classes(), slab.limit(), table, pins), before)

    def test_refused_arguments_are_not_changed(self):
        classes, pins, answer = [(1, 4), [2, 2]], ([1], {0: [1]}), [8, [0, 1]]
        self.raises(NoSlab(1), least_limit, classes, ((), ()), pins=pins)
        self.same(classes, [(1, 4), [2, 2]])
        with self.assertRaises(NoPins) as caught:
            least_limit(PAIR, ((), ()), pins=pins)
        self.assertIs(caught.exception.pins, pins)
        self.same(pins, ([1], {0: [1]}))
        self.raises(NoCertificate(-1), check_limit, PAIR, ((), ()), answer)
        self.same(answer, [8, [0, 1]])

    def test_later_changes_change_nothing(self):
        classes = [(1, 4), (2, 2)]
        answer = least_limit(classes, ((1, 1), (1, 1)))
        slab = Slab(classes, 7)
        found = most_beside(slab, ((1, 1), (1,)))
        classes[0] = (1, 1)
        self.same(answer, (8, (0, 1)))
        self.same(most_beside(slab, ((1, 1), (1,))), [2, 1])
        found.clear()
        self.same(most_beside(slab, ((1, 1), (1,))), [2, 1])

    def test_equal_arguments_give_equal_results(self):
        for pins in (None, ((1,), ()), ((), (1,))):
            results = []
            for turn in range(2):
                classes = [(size, slots) for size, slots in PAIR]
                results.append((
                    least_limit(classes, ((1, 1), (1, 1)), pins=pins),
                    most_beside(Slab(classes, 9), ((1, 1), (1, 1)), pins=pins),
                ))
                least_limit([(9, 9)], ((1, 1),))
            self.same(results[0], results[1])

    def test_arguments_by_name(self):
        table, pins = ((1, 1), (1, 1)), ((1, 1), ())
        self.same(least_limit(pins=pins, table=table, classes=PAIR), (8, (1,)))
        self.assertIsNone(check_limit(pins=pins, answer=(8, (1,)), table=table, classes=PAIR))
        self.same(most_beside(pins=pins, table=table, slab=SMALL), [None, 1])
        for call, arguments in ((least_limit, (PAIR, table)), (check_limit, (PAIR, table, (8, (0, 1)))),
                                (most_beside, (SMALL, table))):
            with self.assertRaises(TypeError):
                call(*arguments, None)

    def test_functions_are_defined_in_this_module(self):
        self.defined(limits, {
            "least_limit": "(classes, table, *, pins=None)", "check_limit": "(classes, table, answer, *, pins=None)",
            "most_beside": "(slab, table, *, pins=None)",
        })
