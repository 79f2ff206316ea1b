"""Points 14, 15 and 16, and points 2 and 3 for tables that arise."""

import copy
import itertools

from slabpins import arising
from slabpins.arising import check_order, order_of
from slabpins.errors import NoCertificate, NoPins, NoTable, Stuck
from slabpins.schedules import schedule
from slabpins.slabs import Slab
from slabpins.tables import empty
from tests.model import further, has, held, needed, verdict
from tests.support import NO_INTEGERS, ODD_LISTS, ODD_TUPLES, ODD_VALUES, Case

SMALL = Slab([(1, 4), (2, 2)], 7)
WIDE = Slab([(1, 60), (1, 2)], 10 ** 6)
WRONG = [("order", ()), ("stuck", ()), None, ("order", (0, 0)), ("stuck", (9,))]


class Checked(Case):
    """Calls the functions with the errors of point 15."""

    def arises(self, slab, table, pins=None):
        answer = self.answered(slab, table, pins)
        self.assertEqual(answer[0], "order")
        return answer[1]

    def stuck(self, slab, table, pins=None):
        answer = self.answered(slab, table, pins)
        self.assertEqual(answer[0], "stuck")
        self.raises(Stuck(answer[1]), schedule, slab, table, pins=pins)
        return answer[1]

    def answered(self, slab, table, pins):
        answer = order_of(slab, table, pins=pins)
        self.assertEqual([type(part) for part in answer], [str, tuple])
        self.assertIsNone(verdict(slab, table, empty(slab) if pins is None else pins, answer))
        self.assertIsNone(check_order(slab, table, answer, pins=pins))
        return answer

    def refused(self, error, slab, table, pins=None):
        self.raises(error, order_of, slab, table, pins=pins)
        self.raises(error, schedule, slab, table, pins=pins)
        for answer in WRONG:
            self.raises(error, check_order, slab, table, answer, pins=pins)


class Orders(Checked):
    def test_one_order(self):
        self.same(order_of(Slab(SMALL.classes(), 6), ((1,), (1, 1))), ("order", (1, 0)))

    def test_stuck_classes(self):
        self.same(order_of(SMALL, ((1, 1), (1, 1))), ("stuck", (0, 1)))
        self.same(order_of(SMALL, ((1, 1), (1, 1)), pins=((1, 1), ())), ("stuck", (1,)))
        self.same(order_of(Slab([(5, 2), (1, 2)], 14), ((1, 1), (1,))), ("stuck", (0,)))

    def test_no_further_pages(self):
        for table in (((), ()), ((1, 4), (1,)), ((3,), (2,))):
            self.same(order_of(SMALL, table, pins=table), ("order", ()))
        self.same(order_of(SMALL, ((), ())), ("order", ()))
        self.same(order_of(SMALL, ((1, 4), (1,)), pins=((1, 1), (1,))), ("order", ()))
        self.same(order_of(Slab([(1, 1)], 0), ((),)), ("order", ()))

    def test_only_classes_with_further_pages_are_ordered(self):
        slab = Slab([(1, 2)] * 6, 100)
        pins = ((1,), (1, 1), (), (2,), (), ())
        table = ((1, 2), (2, 2), (), (1, 2), (1,), ())
        self.same(sorted(self.arises(slab, table, pins)), [0, 3, 4])

    def test_the_limit_of_one_class(self):
        # Two pages of four slots: one is full, and one object is in the other.
        self.same(self.arises(Slab([(3, 4)], 15), ((1, 1),)), (0,))
        self.same(self.stuck(Slab([(3, 4)], 14), ((1, 1),)), (0,))
        self.same(self.arises(Slab([(3, 4)], 3), ((1,),)), (0,))
        self.same(self.arises(Slab([(3, 4)], 27), ((1, 1, 1),)), (0,))
        self.same(self.stuck(Slab([(3, 4)], 26), ((1, 1, 1),)), (0,))

    def test_the_limit_of_several_classes(self):
        for limit, fine in ((7, False), (8, True), (9, True)):
            slab = Slab(SMALL.classes(), limit)
            if fine:
                self.arises(slab, ((1, 1), (1, 1)))
            else:
                self.same(self.stuck(slab, ((1, 1), (1, 1))), (0, 1))

    def test_the_limit_with_pins(self):
        # The pages of the pins are filled, too; the objects of the other classes' pins stay.
        self.arises(Slab([(1, 4)], 9), ((1, 1, 3),), ((3,),))
        self.stuck(Slab([(1, 4)], 8), ((1, 1, 3),), ((3,),))
        self.arises(Slab([(1, 4), (2, 5)], 11), ((1, 1), (3,)), ((), (3,)))
        self.same(self.stuck(Slab([(1, 4), (2, 5)], 10), ((1, 1), (3,)), ((), (3,))), (0,))

    def test_only_the_pins_of_the_other_classes_are_live_meanwhile(self):
        # The second object in a page of class 1 counts only if it is one of the pins.
        table = ((1, 2), (1, 2))
        self.arises(Slab([(1, 4), (2, 3)], 9), table, ((2,), (1, 1)))
        self.stuck(Slab([(1, 4), (2, 3)], 10), table, ((2,), (1, 2)))
        self.arises(Slab([(1, 4), (2, 3)], 11), table, ((2,), (1, 2)))

    def test_a_table_can_arise_from_pins_alone(self):
        slab, table = Slab([(1, 4), (2, 2), (1, 1)], 7), ((1, 1), (1, 1), (1,))
        self.stuck(slab, table)
        self.same(self.arises(slab, table, ((1, 1), (1, 1), ())), (2,))

    def test_pins_none_and_pins_without_pages(self):
        for slab in (SMALL, Slab(SMALL.classes(), 8)):
            for table in (((), ()), ((1, 1), (1, 1)), ((1,), (1, 1)), ((1, 3), ())):
                first = order_of(slab, table)
                self.same(order_of(slab, table, pins=None), first)
                self.same(order_of(slab, table, pins=((), ())), first)

    def test_slots_one(self):
        # Each page is full with its only object, so nothing holds more than its object.
        slab = Slab([(1, 1), (2, 1), (3, 1)], 14)
        self.same(sorted(self.arises(slab, ((1, 1), (1, 1, 1), (1, 1)))), [0, 1, 2])
        self.refused(NoTable(4), slab, ((1, 1, 1), (1, 1, 1), (1, 1)))

    def test_the_limit_zero(self):
        slab = Slab([(1, 4)] * 6, 0)
        self.same(self.arises(slab, ((),) * 6), ())
        self.refused(NoTable(7), slab, ((1,),) + ((),) * 5)

    def test_the_greatest_limit(self):
        # 16 full pages of 60,000 bytes, and one object more.
        slab = Slab([(1000, 60)], 10 ** 6)
        self.same(self.arises(slab, ((1,) * 17,)), (0,))
        self.same(self.stuck(slab, ((1,) * 18,)), (0,))

    def test_sixty_pages(self):
        for limit, word in ((59 * 60, "stuck"), (59 * 60 + 1, "order")):
            self.assertEqual(self.answered(Slab([(1, 60)], limit), ((1,) * 60,), None)[0], word)
        pins = ((1,) * 59, ())
        self.same(self.arises(WIDE, ((1,) * 59, (1,)), pins), (1,))
        self.same(self.arises(WIDE, ((1,) * 60, ()), pins), (0,))
        self.same(self.arises(WIDE, ((1,) * 60, ()), ((1,) * 60, ())), ())
        self.same(sorted(self.arises(Slab([(1, 2)] * 6, 30), ((1,) * 10,) * 2 + ((),) * 4)), [0, 1])

    def test_six_classes_in_every_order(self):
        # Numbers that look arbitrary, but are the same each time.
        seed = 1
        for case in range(24):
            classes, pins, table = [], [], []
            for number in range(6):
                seed = seed * 1103515245 % 2147483647
                classes.append((seed % 9 + 1, seed // 9 % 8 + 1))
                pins.append((1,) * (seed // 72 % 3 * (case % 2)))
                table.append((1,) * (seed // 216 % 4 + len(pins[-1])))
            self.in_every_order(classes, tuple(table), tuple(pins))

    def in_every_order(self, classes, table, pins):
        high = Slab(classes, 10 ** 6)
        least = min(
            max([needed(high, table, pins, order[:at], number) for at, number in enumerate(order)])
            for order in itertools.permutations(further(table, pins))
        )
        self.arises(Slab(classes, least), table, pins)
        if held(high, table) < least:
            self.stuck(Slab(classes, least - 1), table, pins)
        else:
            self.refused(NoTable(7), Slab(classes, least - 1), table, pins)


class Errors(Checked):
    def test_tables_that_are_none(self):
        for table in ODD_VALUES + ODD_LISTS + [0, (), ((),), [(), ()], ((1,), (), ())]:
            self.refused(NoTable(-1), SMALL, table)
        for item in ODD_VALUES + ODD_LISTS + [1, [1]]:
            self.refused(NoTable(0), SMALL, (item, ()))
            self.refused(NoTable(1), SMALL, ((1,), item))
        for counts in ((0,), (5,), (2, 1), (True,), (None,)):
            self.refused(NoTable(0), SMALL, (counts, ()))
        self.refused(NoTable(2), WIDE, ((1,) * 60, (1,)))
        self.refused(NoTable(3), SMALL, ((4, 4), ()))

    def test_pins_that_are_no_table(self):
        odd = [value for value in ODD_VALUES if value is not None]
        for pins in odd + ODD_LISTS + ODD_TUPLES + [0, 1, ((),), ((), (), ()), [(), ()], "ab"]:
            self.refused(NoPins(pins), SMALL, ((1, 1), (1,)), pins)
        for item in ODD_VALUES + ODD_LISTS + [1, [1]]:
            self.refused(NoPins((item, ())), SMALL, ((1, 1), (1,)), (item, ()))
            self.refused(NoPins(((1,), item)), SMALL, ((1, 1), (1,)), ((1,), item))

    def test_pins_with_counts_that_are_none(self):
        for odd in NO_INTEGERS + [0, -1, 5]:
            self.refused(NoPins(((odd,), ())), SMALL, ((1, 4), (1,)), ((odd,), ()))
        self.refused(NoPins(((2, 1), ())), SMALL, ((2, 2), ()), ((2, 1), ()))
        self.refused(NoPins(((True, 1), ())), SMALL, ((1, 1), ()), ((True, 1), ()))

    def test_pins_with_too_many_pages_or_bytes(self):
        for pins in (((1,) * 61, ()), ((1,) * 60, (1,)), ((1,) * 30, (2,) * 31)):
            self.refused(NoPins(pins), WIDE, ((1,) * 30, (1,) * 30), pins)
        for pins in (((4, 4), ()), ((4,), (2,)), ((), (2, 2))):
            self.refused(NoPins(pins), SMALL, ((1, 1), (1,)), pins)

    def test_pins_that_the_table_does_not_have(self):
        for table, pins in (
            (((1,), ()), ((1, 1), ())), (((1,), ()), ((2,), ())), (((2, 2), ()), ((3,), ())),
            (((1, 3), ()), ((2, 2), ())), (((2, 3), ()), ((1, 4), ())), (((1, 1), ()), ((1,), (1,))),
            (((), (1, 1)), ((), (2,))), (((), ()), ((), (1,))), (((4,), ()), ((1, 1), ())),
        ):
            self.assertFalse(has(table, pins))
            self.refused(NoPins(pins), SMALL, table, pins)

    def test_pins_that_the_table_just_has(self):
        for table, pins in (
            (((1, 3), ()), ((3,), ())), (((1, 3), ()), ((1,), ())), (((2, 2), ()), ((2,), ())),
            (((2, 2), ()), ((1, 2), ())), (((1, 1, 1), (1,)), ((1,), (1,))), (((1, 4), ()), ((1, 4), ())),
        ):
            self.arises(Slab(SMALL.classes(), 20), table, pins)

    def test_several_errors_at_once(self):
        self.refused(NoTable(-1), SMALL, None, 7)
        self.refused(NoTable(1), SMALL, ((1,), (3,)), ((9,), ()))
        self.refused(NoTable(3), SMALL, ((4, 4), ()), ((1, 1, 1), ()))
        self.refused(NoPins([]), SMALL, ((1, 1), (1, 1)), [])
        self.refused(NoPins(((4, 4), ())), SMALL, ((1,), ()), ((4, 4), ()))


class Answers(Checked):
    def good(self, slab, table, answer, pins=None):
        self.assertIsNone(check_order(slab, table, answer, pins=pins))

    def bad(self, index, slab, table, answer, pins=None):
        self.raises(NoCertificate(index), check_order, slab, table, answer, pins=pins)

    def test_orders(self):
        slab = Slab([(1, 4), (2, 2), (3, 1)], 12)
        table = ((1, 1), (1, 1), (1,))
        for order in itertools.permutations(range(3)):
            self.good(slab, table, ("order", order))
        self.good(Slab(SMALL.classes(), 6), ((1,), (1, 1)), ("order", (1, 0)))
        self.good(SMALL, ((), ()), ("order", ()))

    def test_a_class_that_needs_too_much(self):
        self.bad(3, Slab(SMALL.classes(), 6), ((1,), (1, 1)), ("order", (0, 1)))
        self.bad(2, Slab(SMALL.classes(), 5), ((1,), (1, 1)), ("order", (1, 0)))
        self.bad(3, SMALL, ((1, 1), (1, 1)), ("order", (0, 1)))
        self.bad(3, SMALL, ((1, 1), (1, 1)), ("order", (1, 0)))

    def test_the_first_class_that_needs_too_much(self):
        slab, table = Slab([(1, 4), (1, 4), (1, 4)], 6), ((1, 1),) * 3
        self.bad(4, slab, table, ("order", (0, 2, 1)))
        self.bad(3, slab, table, ("order", (0, 2)))
        self.bad(3, Slab([(1, 4)] * 3, 5), ((1, 1), (1, 1), (1,)), ("order", (0, 1)))

    def test_a_class_is_left_out(self):
        slab = Slab([(1, 4), (2, 2), (3, 1)], 100)
        table = ((1,), (1,), (1,))
        self.bad(4, slab, table, ("order", (0, 2)))
        self.bad(2, slab, table, ("order", (1,)))
        self.bad(0, slab, table, ("order", ()))
        self.good(slab, table, ("order", (0, 2)), ((), (1,), ()))
        self.good(slab, table, ("order", ()), table)

    def test_too_much_is_told_before_what_is_left_out(self):
        self.bad(1, Slab([(1, 4), (1, 4)], 4), ((1, 1), (1,)), ("order", (0,)))
        self.bad(2, Slab([(1, 4), (1, 4)], 5), ((1, 1), (1,)), ("order", (0,)))

    def test_stuck_classes(self):
        self.good(SMALL, ((1, 1), (1, 1)), ("stuck", (0, 1)))
        self.good(SMALL, ((1, 1), (1, 1)), ("stuck", (1, 0)))
        self.good(SMALL, ((1, 1), (1, 1)), ("stuck", (1,)), ((1, 1), ()))
        self.good(Slab([(1, 4), (9, 2)], 26), ((1, 1), (1, 1)), ("stuck", (1,)))
        self.bad(2, Slab([(1, 4), (9, 2)], 26), ((1, 1), (1, 1)), ("stuck", (0, 1)))

    def test_stuck_classes_of_which_one_could_be_the_last(self):
        self.bad(1, SMALL, ((1, 1), (1,)), ("stuck", (0,)))
        self.bad(1, SMALL, ((1, 1), (1, 1)), ("stuck", (0,)))
        self.bad(1, SMALL, ((1, 1), (1, 1)), ("stuck", (1,)))
        self.bad(2, Slab(SMALL.classes(), 8), ((1, 1), (1, 1)), ("stuck", (0, 1)))
        self.bad(1, SMALL, ((1, 1), (1,)), ("stuck", (1,)), ((1, 1), ()))

    def test_no_stuck_classes(self):
        self.bad(0, SMALL, ((1, 1), (1, 1)), ("stuck", ()))
        self.bad(0, SMALL, ((), ()), ("stuck", ()))

    def test_what_is_no_answer(self):
        table = ((1, 1), (1,))
        answers = ODD_VALUES + ODD_LISTS + ODD_TUPLES + [0, "order", ["order", (0, 1)], ("order",), ((0, 1), "order")]
        answers += [("order", (0, 1), ()), ("Order", (0, 1)), ("", (0, 1)), ("orders", (0, 1)), ("free", (0, 1))]
        answers += [(word, (0, 1)) for word in ODD_VALUES + ODD_LISTS + ODD_TUPLES]
        answers += [(word, numbers) for word in ("order", "stuck") for numbers in ODD_VALUES + ODD_LISTS + [0, [0, 1]]]
        for answer in answers:
            self.bad(-1, SMALL, table, answer)
            self.bad(-1, SMALL, table, answer, table)

    def test_a_word_is_a_text(self):
        class Alike:
            def __eq__(self, other):
                return other == "order"

        self.bad(-1, SMALL, ((1, 1), (1,)), (Alike(), (0, 1)))

    def test_numbers_that_are_none_of_a_class(self):
        for word in ("order", "stuck"):
            for odd in NO_INTEGERS + [-1, -2, 2, 10 ** 30, "0", [0], (1,), {0: 0}]:
                self.bad(0, SMALL, ((1, 1), (1,)), (word, (odd,)))
                self.bad(0, SMALL, ((1, 1), (1,)), (word, (odd, odd)))
                self.bad(1, SMALL, ((1, 1), (1,)), (word, (1, odd)))
                self.bad(2, SMALL, ((1, 1), (1,)), (word, (1, 0, odd, 1)))

    def test_classes_without_further_pages(self):
        for word in ("order", "stuck"):
            self.bad(0, SMALL, ((1, 1), ()), (word, (1,)))
            self.bad(1, SMALL, ((1, 1), ()), (word, (0, 1)))
            self.bad(1, SMALL, ((1, 1), (2,)), (word, (0, 1)), ((1,), (1,)))
            self.bad(0, SMALL, ((1, 1), (2,)), (word, (1, 1)), ((1,), (1,)))

    def test_repeated_classes(self):
        for word in ("order", "stuck"):
            self.bad(1, SMALL, ((1, 1), (1, 1)), (word, (1, 1)))
            self.bad(2, SMALL, ((1, 1), (1, 1)), (word, (0, 1, 0, 1)))
            self.bad(2, SMALL, ((1, 1), (1, 1)), (word, (0, 1, 1, None)))


class Kept(Checked):
    def test_arguments_are_not_changed(self):
        slab, table, pins = Slab([(1, 4), (2, 2)], 8), ((1, 3), (1, 1)), ((3,), (1,))
        before = copy.deepcopy((slab.classes(), slab.limit(), table, pins))
        answer = order_of(slab, table, pins=pins)
        kept = copy.deepcopy(answer)
        check_order(slab, table, answer, pins=pins)
        self.raises(NoCertificate(0), check_order, slab, table, ("stuck", ()), pins=pins)
        self.same((slab.classes(), slab.limit(), table, pins), before)
        self.same(answer, kept)

    def test_refused_arguments_are_not_changed(self):
        pins, answer = ([3, 1], {0: [1]}), ["order", [1, 0]]
        self.raises(NoPins(([3, 1], {0: [1]})), order_of, SMALL, ((1,), ()), pins=pins)
        self.same(pins, ([3, 1], {0: [1]}))
        self.raises(NoCertificate(-1), check_order, SMALL, ((1,), ()), answer)
        self.same(answer, ["order", [1, 0]])

    def test_the_pins_of_the_error_are_those_passed(self):
        pins = [()]
        with self.assertRaises(NoPins) as caught:
            order_of(SMALL, ((), ()), pins=pins)
        self.assertIs(caught.exception.pins, pins)

    def test_a_later_change_of_the_classes_changes_nothing(self):
        classes = [(1, 4), (2, 2)]
        slab = Slab(classes, 7)
        classes[1] = (1, 1)
        self.same(order_of(slab, ((1, 1), (1, 1))), ("stuck", (0, 1)))

    def test_equal_arguments_give_equal_results(self):
        for limit in (7, 8):
            for pins in (None, ((1,), ()), ((), (1,))):
                first = order_of(Slab([(1, 4), (2, 2)], limit), ((1, 1), (1, 1)), pins=pins)
                order_of(SMALL, ((1,), ()))
                self.same(order_of(Slab([(1, 4), (2, 2)], limit), ((1, 1), (1, 1)), pins=pins), first)


class Names(Checked):
    def test_arguments_by_name(self):
        table, pins = ((1, 1), (1, 1)), ((1, 1), ())
        self.same(order_of(pins=pins, table=table, slab=SMALL), ("stuck", (1,)))
        self.same(order_of(table=table, slab=SMALL), ("stuck", (0, 1)))
        self.assertIsNone(check_order(pins=pins, answer=("stuck", (1,)), table=table, slab=SMALL))
        self.assertIsNone(check_order(answer=("stuck", (1, 0)), table=table, slab=SMALL))
        self.raises(NoCertificate(1), check_order, answer=("stuck", (1,)), table=table, slab=SMALL)
        self.raises(NoPins(0), order_of, slab=SMALL, table=table, pins=0)

    def test_pins_only_by_name(self):
        with self.assertRaises(TypeError):
            order_of(SMALL, ((), ()), None)
        with self.assertRaises(TypeError):
            check_order(SMALL, ((), ()), ("order", ()), None)

    def test_functions_are_defined_in_this_module(self):
        self.defined(arising, {
            "order_of": "(slab, table, *, pins=None)", "check_order": "(slab, table, answer, *, pins=None)",
        })
