"""Points 8 to 11, and points 2 and 3 for tables and steps."""

import copy

from slabpins import tables
from slabpins.errors import NoSteps, NoTable
from slabpins.slabs import Slab
from slabpins.tables import check_table, empty, live, pages, played, steps
from tests.support import NO_INTEGERS, ODD_LISTS, ODD_TUPLES, ODD_VALUES, Case

SMALL = Slab([(1, 4), (2, 2)], 7)
WIDE = Slab([(1, 60), (1, 2)], 10 ** 6)


class Checked(Case):
    """Calls each function that takes a table."""

    def fine(self, slab, table):
        self.assertIsNone(check_table(slab, table))
        self.same(live(slab, table), sum(slab.bytes_of(at) * sum(row) for at, row in enumerate(table)))
        self.same(pages(slab, table), [len(row) for row in table])
        self.assertIsInstance(steps(slab, table), list)
        self.same(played(slab, table, []), table)

    def refused(self, index, slab, table):
        for call in (check_table, live, pages, steps):
            self.raises(NoTable(index), call, slab, table)
        for row in ([], None, [None], [("put", 0, 0)]):
            self.raises(NoTable(index), played, slab, table, row)


class Tables(Checked):
    def test_ordinary_tables(self):
        for table in [((), ()), ((1,), ()), ((), (1,)), ((1, 2), (1,)), ((1, 1), (1, 1)), ((3, 4), ()), ((), (1, 2))]:
            self.fine(SMALL, table)

    def test_live_bytes(self):
        self.same(live(SMALL, ((1, 2), (1,))), 5)
        self.same(live(SMALL, ((), ())), 0)
        self.same(live(Slab([(1000, 60), (7, 3)], 10 ** 6), ((2, 60), (3, 3))), 62042)

    def test_numbers_of_pages(self):
        self.same(pages(SMALL, ((1, 1, 2), (1,))), [3, 1])
        self.same(pages(SMALL, ((), ())), [0, 0])

    def test_the_empty_table(self):
        for many in range(1, 7):
            slab = Slab([(3, 2)] * many, 0)
            self.same(empty(slab), ((),) * many)
            self.fine(slab, empty(slab))

    def test_the_limit_of_bytes(self):
        self.fine(SMALL, ((1, 4), (1,)))
        self.refused(3, SMALL, ((2, 4), (1,)))
        self.refused(3, SMALL, ((), (2, 2)))
        self.fine(Slab([(1, 1)], 0), ((),))
        self.refused(2, Slab([(1, 1)], 0), ((1,),))
        self.fine(Slab([(1000, 60)], 10 ** 6), ((40,) + (60,) * 16,))
        self.refused(2, Slab([(1000, 60)], 10 ** 6), ((41,) + (60,) * 16,))
        self.refused(7, Slab([(5, 1)] * 6, 29), ((1,),) * 6)
        self.fine(Slab([(5, 1)] * 6, 30), ((1,),) * 6)

    def test_the_number_of_pages(self):
        self.fine(WIDE, ((1,) * 60, ()))
        self.fine(WIDE, ((), (2,) * 60))
        self.fine(WIDE, ((1,) * 30, (1,) * 30))
        self.refused(2, WIDE, ((1,) * 61, ()))
        self.refused(2, WIDE, ((), (2,) * 61))
        self.refused(2, WIDE, ((1,) * 30, (1,) * 31))
        self.refused(1, Slab([(1, 1)], 61), ((1,) * 61,))
        self.refused(6, Slab([(1, 1)] * 6, 100), ((1,) * 11,) + ((1,) * 10,) * 5)

    def test_counts_at_the_edges(self):
        for slots in (1, 2, 59, 60):
            slab = Slab([(1, slots)], 10 ** 6)
            self.fine(slab, ((1, slots),))
            self.refused(0, slab, ((0,),))
            self.refused(0, slab, ((0, 1),))
            self.refused(0, slab, ((-1,),))
            self.refused(0, slab, ((slots + 1,),))
            self.refused(0, slab, ((1, slots + 1),))

    def test_each_class_has_its_own_slots(self):
        self.fine(SMALL, ((4,), ()))
        self.refused(1, SMALL, ((), (3,)))
        self.refused(0, SMALL, ((5,), ()))

    def test_counts_that_do_not_ascend(self):
        self.refused(0, SMALL, ((2, 1), ()))
        self.refused(0, SMALL, ((1, 3, 2), ()))
        self.refused(0, SMALL, ((2, 1, 3), ()))
        self.refused(1, SMALL, ((1, 1), (2, 1)))

    def test_what_is_no_tuple_with_an_item_per_class(self):
        for table in ODD_VALUES + ODD_LISTS + [0, 1, -1, (), ((),), ((), (), ()), [(), ()], [[], []], ((1,),), "ab"]:
            self.refused(-1, SMALL, table)
        self.refused(-1, Slab([(1, 1)], 1), ())
        self.refused(-1, Slab([(1, 1)], 1), [()])

    def test_items_that_are_no_tuples_of_counts(self):
        for item in ODD_VALUES + ODD_LISTS + [1, [1, 1], [1, 2], {1: 1}]:
            self.refused(0, SMALL, (item, ()))
            self.refused(1, SMALL, ((1,), item))

    def test_counts_that_are_no_integers(self):
        for odd in NO_INTEGERS:
            self.refused(0, SMALL, ((odd,), ()))
            self.refused(0, SMALL, ((1, odd), ()))
            self.refused(1, SMALL, ((), (odd, 2)))

    def test_several_errors_at_once(self):
        self.refused(-1, SMALL, ((9,),))
        self.refused(-1, SMALL, [None, None])
        self.refused(0, SMALL, (None, None))
        self.refused(0, SMALL, ((2, 1), (9,)))
        self.refused(1, SMALL, ((4, 4), (2, 1)))
        self.refused(1, SMALL, ((1,) * 61, [1]))
        self.refused(0, SMALL, ((1,) * 60 + (5,), ()))
        self.refused(2, SMALL, ((1,) * 61, ()))
        self.refused(2, Slab([(1, 1), (1, 1)], 0), ((1,) * 30, (1,) * 31))


class Steps(Case):
    def test_no_pages(self):
        self.same(steps(SMALL, ((), ())), [("put", 0, 0), ("put", 1, 0)])

    def test_each_kind(self):
        slab = Slab([(1, 4), (2, 3)], 100)
        self.same(steps(slab, ((1, 1, 3, 4), (3, 3))), [
            ("free", 0, 1), ("free", 0, 3), ("free", 0, 4), ("free", 1, 3),
            ("put", 0, 1), ("put", 0, 3), ("put", 1, 0),
        ])

    def test_a_step_occurs_once_and_in_order(self):
        slab = Slab([(1, 4)] * 3, 100)
        found = steps(slab, ((2, 2, 2), (4, 4), (1, 1, 3)))
        self.same(found, sorted(found))
        self.same(found, [
            ("free", 0, 2), ("free", 1, 4), ("free", 2, 1), ("free", 2, 3),
            ("put", 0, 2), ("put", 1, 0), ("put", 2, 1), ("put", 2, 3),
        ])

    def test_counts_far_apart_ascend(self):
        # A small set of these does not give them in ascending order.
        counts = [2, 9, 17, 33, 40]
        slab = Slab([(1, 60)], 10 ** 6)
        self.same(steps(slab, (tuple(counts),)), [(word, 0, count) for word in ("free", "put") for count in counts])

    def test_a_new_page_only_if_all_are_full(self):
        slab = Slab([(1, 3)], 100)
        self.same(steps(slab, ((3, 3),)), [("free", 0, 3), ("put", 0, 0)])
        self.same(steps(slab, ((2, 3),)), [("free", 0, 2), ("free", 0, 3), ("put", 0, 2)])
        self.same(steps(slab, ((1,),)), [("free", 0, 1), ("put", 0, 1)])

    def test_pages_with_one_slot_are_always_full(self):
        self.same(steps(Slab([(1, 1)], 3), ((1, 1),)), [("free", 0, 1), ("put", 0, 0)])

    def test_the_limit_after_a_put(self):
        for limit, put in ((5, []), (6, [("put", 0, 1)])):
            self.same(steps(Slab([(3, 2)], limit), ((1,),)), [("free", 0, 1)] + put)
        for limit, put in ((5, []), (6, [("put", 0, 0)])):
            self.same(steps(Slab([(3, 1)], limit), ((1,),)), [("free", 0, 1)] + put)
        for limit, put in ((2, []), (3, [("put", 0, 0)])):
            self.same(steps(Slab([(3, 1)], limit), ((),)), put)

    def test_the_limit_is_of_all_classes_together(self):
        slab = Slab([(1, 4), (2, 4), (3, 4)], 8)
        self.same(steps(slab, ((1,), (1,), (1,)))[3:], [("put", 0, 1), ("put", 1, 1)])
        self.same(steps(slab, ((2,), (), (2,)))[2:], [])

    def test_at_the_limit_everything_can_be_freed(self):
        self.same(steps(SMALL, ((1, 4), (1,))), [("free", 0, 1), ("free", 0, 4), ("free", 1, 1)])
        self.same(steps(Slab([(1, 1)], 0), ((),)), [])

    def test_sixty_pages(self):
        slab = Slab([(1, 2), (1, 2)], 10 ** 6)
        free = [("free", 0, 2)]
        self.same(steps(slab, ((2,) * 59, ())), free + [("put", 0, 0), ("put", 1, 0)])
        self.same(steps(slab, ((2,) * 60, ())), free)
        self.same(steps(slab, ((1,) + (2,) * 59, ())), [("free", 0, 1)] + free + [("put", 0, 1)])
        self.same(steps(slab, ((2,) * 30, (2,) * 30)), [("free", 0, 2), ("free", 1, 2)])
        self.same(steps(slab, ((2,) * 30, (2,) * 29))[2:], [("put", 0, 0), ("put", 1, 0)])

    def test_counts_at_the_edges(self):
        for slots in (2, 59, 60):
            slab = Slab([(1, slots)], 10 ** 6)
            self.same(steps(slab, ((slots - 1,),)), [("free", 0, slots - 1), ("put", 0, slots - 1)])
            self.same(steps(slab, ((slots,),)), [("free", 0, slots), ("put", 0, 0)])


class Played(Case):
    def good(self, slab, table, row, expected):
        self.same(played(slab, table, row), expected)

    def bad(self, index, slab, table, row):
        self.raises(NoSteps(index), played, slab, table, row)

    def test_no_steps(self):
        self.good(SMALL, ((1, 2), (1,)), [], ((1, 2), (1,)))

    def test_free(self):
        self.good(SMALL, ((1, 3), (1,)), [("free", 0, 3)], ((1, 2), (1,)))
        self.good(SMALL, ((1, 3), (1,)), [("free", 0, 1)], ((3,), (1,)))
        self.good(SMALL, ((1, 3), (1,)), [("free", 1, 1)], ((1, 3), ()))
        self.good(SMALL, ((1, 1, 1), ()), [("free", 0, 1)], ((1, 1), ()))
        self.good(SMALL, ((2, 2, 2), ()), [("free", 0, 2)], ((1, 2, 2), ()))
        for count in (0, 2, 4):
            self.bad(0, SMALL, ((1, 3), (1,)), [("free", 0, count)])
        self.bad(0, SMALL, ((1, 3), ()), [("free", 1, 1)])

    def test_put_into_a_page(self):
        self.good(SMALL, ((1, 3), ()), [("put", 0, 1)], ((2, 3), ()))
        self.good(SMALL, ((1, 3), ()), [("put", 0, 3)], ((1, 4), ()))
        self.good(SMALL, ((1, 1, 2), ()), [("put", 0, 1)], ((1, 2, 2), ()))
        self.good(SMALL, ((1, 2), ()), [("put", 0, 1), ("put", 0, 2)], ((2, 3), ()))
        self.bad(0, SMALL, ((1, 3), ()), [("put", 0, 2)])
        self.bad(0, SMALL, ((1, 4), ()), [("put", 0, 4)])
        self.bad(0, SMALL, ((), (2,)), [("put", 1, 2)])

    def test_put_into_a_new_page(self):
        self.good(SMALL, ((), ()), [("put", 0, 0)], ((1,), ()))
        self.good(SMALL, ((4,), (1,)), [("put", 0, 0)], ((1, 4), (1,)))
        self.good(SMALL, ((2,), (2,)), [("free", 1, 2), ("free", 1, 1), ("put", 1, 0)], ((2,), (1,)))
        self.bad(0, SMALL, ((1,), ()), [("put", 0, 0)])
        self.bad(0, SMALL, ((3, 4), ()), [("put", 0, 0)])

    def test_the_limit(self):
        slab = Slab([(3, 2), (2, 1)], 8)
        self.good(slab, ((2,), ()), [("put", 1, 0)], ((2,), (1,)))
        self.bad(0, slab, ((2,), ()), [("put", 0, 0)])
        self.good(slab, ((1,), (1,)), [("put", 0, 1)], ((2,), (1,)))
        self.bad(1, slab, ((1,), (1,)), [("put", 0, 1), ("put", 1, 0)])
        self.good(slab, ((2,), (1,)), [("free", 1, 1), ("free", 0, 2), ("put", 1, 0), ("put", 1, 0)], ((1,), (1, 1)))
        self.bad(4, slab, ((2,), (1,)), [("free", 1, 1), ("free", 0, 2), ("put", 1, 0), ("put", 1, 0), ("put", 1, 0)])
        self.bad(0, Slab([(1, 1)], 0), ((),), [("put", 0, 0)])

    def test_sixty_pages(self):
        slab = Slab([(1, 1), (1, 2)], 10 ** 6)
        self.good(slab, ((1,) * 59, ()), [("put", 0, 0)], ((1,) * 60, ()))
        self.good(slab, ((1,) * 59, ()), [("put", 1, 0), ("put", 1, 1)], ((1,) * 59, (2,)))
        self.bad(1, slab, ((1,) * 59, ()), [("put", 1, 0), ("put", 0, 0)])
        self.bad(0, slab, ((1,) * 60, ()), [("put", 0, 0)])
        self.bad(0, slab, ((1,) * 60, ()), [("put", 1, 0)])
        self.bad(60, slab, ((), ()), [("put", 0, 0)] * 61)
        self.good(slab, ((), ()), [("put", 0, 0)] * 60 + [("free", 0, 1)] * 60, ((), ()))

    def test_each_page_with_room_may_be_taken(self):
        slab = Slab([(1, 60)], 10 ** 6)
        self.good(slab, ((58, 59, 60),), [("put", 0, 58), ("put", 0, 59), ("put", 0, 59), ("put", 0, 0)],
                  ((1, 60, 60, 60),))
        self.good(slab, ((58, 59, 60),), [("put", 0, 59), ("put", 0, 58)], ((59, 60, 60),))

    def test_possible_at_its_turn(self):
        self.good(SMALL, ((), ()), [("put", 1, 0), ("put", 1, 1), ("put", 1, 0), ("free", 1, 2)], ((), (1, 1)))
        self.bad(1, SMALL, ((), ()), [("put", 0, 0), ("put", 0, 0)])
        self.bad(1, SMALL, ((1,), ()), [("free", 0, 1), ("free", 0, 1)])
        self.bad(2, SMALL, ((), ()), [("put", 0, 0), ("put", 0, 1), ("put", 0, 1)])
        self.bad(0, SMALL, ((), ()), [("put", 0, 1), ("put", 0, 0)])

    def test_the_first_wrong_item_counts(self):
        self.bad(0, SMALL, ((), ()), [None, ("free", 0, 9)])
        self.bad(1, SMALL, ((), ()), [("put", 0, 0), ("free", 1, 1), None])
        self.bad(3, SMALL, ((), ()), [("put", 0, 0), ("put", 0, 1), ("free", 0, 2), ("free", 0, 2), 7])

    def test_what_is_no_list(self):
        step = ("put", 0, 0)
        for row in ODD_VALUES + ODD_TUPLES + [0, -1, step, (step,), {0: step}, {step}, "put"]:
            self.bad(-1, SMALL, ((), ()), row)

    def test_items_that_are_no_steps(self):
        items = NO_INTEGERS + [0, ["put", 0, 0], ("put", 0), ("put",), ("put", 0, 0, 0), ("Put", 0, 0), ("", 0, 0)]
        items += [(odd, 0, 0) for odd in NO_INTEGERS if odd != "put"]
        items += [("put", odd, 0) for odd in NO_INTEGERS] + [("put", 0, odd) for odd in NO_INTEGERS]
        items += [("free", odd, 1) for odd in NO_INTEGERS] + [("free", 0, odd) for odd in NO_INTEGERS]
        items += [("pu", 0, 0), ("put ", 0, 0), ("move", 0, 0), (0, "put", 0), (b"put", 0, 0), (("put", 0, 0),)]
        for item in items:
            self.bad(0, SMALL, ((), ()), [item])
            self.bad(0, SMALL, ((1,), (1,)), [item])
            self.bad(1, SMALL, ((1,), ()), [("free", 0, 1), item])

    def test_a_word_is_a_text(self):
        class Alike:
            def __eq__(self, other):
                return other == "put"

        self.bad(0, SMALL, ((), ()), [(Alike(), 0, 0)])

    def test_numbers_that_are_none_of_a_class(self):
        for number in (-1, -2, 2, 3, 10 ** 30):
            self.bad(0, SMALL, ((1,), (1,)), [("put", number, 1)])
            self.bad(0, SMALL, ((1,), (1,)), [("free", number, 1)])
            self.bad(0, SMALL, ((), ()), [("put", number, 0)])

    def test_counts_that_no_page_has(self):
        for count in (-1, 0, 3, 4, 5, 10 ** 30):
            self.bad(0, SMALL, ((1, 2), ()), [("put", 0, count)])
            self.bad(0, SMALL, ((1, 2), ()), [("free", 0, count)])


class Kept(Case):
    def test_arguments_are_not_changed(self):
        slab, table = Slab([(1, 4), (2, 2)], 7), ((1, 3), (1,))
        row = [("free", 0, 3), ("put", 0, 1), ("free", 1, 1)]
        before = copy.deepcopy((slab.classes(), slab.limit(), table, row))
        for call in (check_table, live, pages, steps):
            call(slab, table)
        empty(slab)
        played(slab, table, row)
        self.raises(NoSteps(3), played, slab, table, row + [None])
        self.same((slab.classes(), slab.limit(), table, row), before)

    def test_a_refused_table_is_not_changed(self):
        table = ([3, 1], {0: [1]})
        self.raises(NoTable(0), check_table, SMALL, table)
        self.same(table, ([3, 1], {0: [1]}))

    def test_changed_results_change_nothing(self):
        table = ((1, 3), (1,))
        for call, expected in ((pages, [2, 1]), (steps, [("free", 0, 1), ("free", 0, 3), ("free", 1, 1), ("put", 0, 1),
                                                         ("put", 0, 3)])):
            found = call(Slab([(1, 4), (2, 2)], 7), table)
            self.same(found, expected)
            found.reverse()
            found.append(None)
            self.same(call(Slab([(1, 4), (2, 2)], 7), table), expected)
            self.assertIsNot(call(SMALL, table), call(SMALL, table))

    def test_a_later_change_of_the_steps_changes_nothing(self):
        row = [("put", 0, 0)]
        found = played(SMALL, ((), ()), row)
        row.append(("put", 0, 1))
        self.same(found, ((1,), ()))

    def test_a_later_change_of_the_classes_changes_nothing(self):
        classes = [(1, 4), (2, 2)]
        slab = Slab(classes, 7)
        classes.clear()
        self.same(empty(slab), ((), ()))
        self.same(live(slab, ((1,), (1,))), 3)

    def test_equal_arguments_give_equal_results(self):
        for call in (live, pages, steps):
            first = call(Slab([(1, 4), (2, 2)], 7), ((1, 2), (1,)))
            self.same(call(Slab([(1, 4), (2, 2)], 7), ((1, 2), (1,))), first)
            self.same(call(SMALL, ((1, 2), (1,))), first)


class Names(Case):
    def test_arguments_by_name(self):
        table = ((1, 2), (1,))
        self.assertIsNone(check_table(table=table, slab=SMALL))
        for call in (live, pages, steps):
            self.same(call(table=table, slab=SMALL), call(SMALL, table))
        self.same(empty(slab=SMALL), ((), ()))
        self.same(played(row=[("put", 0, 2)], table=table, slab=SMALL), ((1, 3), (1,)))
        for call in (check_table, live, pages, steps):
            self.raises(NoTable(-1), call, slab=SMALL, table=None)
        self.raises(NoSteps(-1), played, slab=SMALL, table=table, row=None)
        self.raises(NoSteps(0), played, slab=SMALL, table=table, row=[("put", 0, 0)])

    def test_functions_are_defined_in_this_module(self):
        self.defined(tables, {
            "check_table": "(slab, table)", "empty": "(slab)", "live": "(slab, table)", "pages": "(slab, table)",
            "steps": "(slab, table)", "played": "(slab, table, row)",
        })
