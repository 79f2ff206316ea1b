"""Point 18, and points 2 and 3 for schedules."""

import copy

from slabpins import schedules
from slabpins.arising import order_of
from slabpins.errors import NoPins, NoTable, Stuck
from slabpins.schedules import schedule
from slabpins.slabs import Slab
from slabpins.tables import check_table, empty, played
from tests.model import after, has
from tests.support import ODD_LISTS, ODD_VALUES, Case

SMALL = Slab([(1, 4), (2, 2)], 7)


class Schedules(Case):
    def leads(self, slab, table, pins=None):
        row = schedule(slab, table, pins=pins)
        self.assertIsInstance(row, list)
        first = empty(slab) if pins is None else pins
        way = first
        for step in row:
            self.assertEqual([type(part) for part in step], [str, int, int])
            way = after(slab, way, step)
            check_table(slab, way)
            self.assertTrue(has(way, first))
        self.same(way, table)
        self.same(played(slab, first, row), table)
        return row

    def test_no_steps(self):
        self.same(self.leads(SMALL, ((), ())), [])
        self.same(self.leads(SMALL, ((1, 3), (1,)), ((1, 3), (1,))), [])
        self.same(self.leads(Slab([(5, 5)] * 6, 0), ((),) * 6), [])

    def test_ordinary_tables(self):
        for table in (((1,), ()), ((1, 1), ()), ((1, 3), (1,)), ((), (1, 1)), ((3, 4), ()), ((1, 1, 1), ())):
            self.leads(Slab(SMALL.classes(), 9), table)
        self.leads(Slab([(1, 4)], 5), ((1, 1),))

    def test_just_at_the_limit(self):
        self.leads(Slab(SMALL.classes(), 8), ((1, 1), (1, 1)))
        self.raises(Stuck((0, 1)), schedule, SMALL, ((1, 1), (1, 1)))
        self.leads(Slab([(3, 4)], 15), ((1, 1),))
        self.raises(Stuck((0,)), schedule, Slab([(3, 4)], 14), ((1, 1),))
        self.leads(Slab([(3, 4)], 15), ((1, 4),))
        self.leads(Slab([(3, 4)], 24), ((4, 4),))
        self.leads(Slab([(1, 4), (2, 2)], 12), ((4, 4), (2,)))

    def test_the_order_matters(self):
        self.leads(Slab(SMALL.classes(), 6), ((1,), (1, 1)))
        self.leads(Slab([(2, 2), (1, 4)], 6), ((1, 1), (1,)))

    def test_pins(self):
        self.leads(Slab([(1, 4)], 9), ((1, 1, 3),), ((3,),))
        self.raises(Stuck((0,)), schedule, Slab([(1, 4)], 8), ((1, 1, 3),), pins=((3,),))
        self.leads(Slab(SMALL.classes(), 12), ((2, 3), (1, 2)), ((1, 3), (1,)))
        self.leads(Slab(SMALL.classes(), 9), ((4,), (1,)), ((1,), ()))
        self.leads(Slab([(1, 4), (2, 3)], 9), ((1, 2), (1, 2)), ((2,), (1, 1)))
        self.raises(Stuck((1,)), schedule, SMALL, ((1, 1), (1, 1)), pins=((1, 1), ()))

    def test_pins_in_full_pages_stay(self):
        self.leads(Slab([(1, 4)], 30), ((1, 2, 4, 4),), ((2, 4, 4),))
        self.leads(Slab([(1, 4)], 30), ((3, 3, 4, 4),), ((1, 2, 4),))
        self.leads(Slab([(1, 4)], 30), ((1, 1, 1, 4),), ((4,),))

    def test_objects_are_put_into_pages_that_are_already_in_use(self):
        self.leads(SMALL, ((3, 4), ()), ((1, 1), ()))
        self.leads(SMALL, ((2, 3), (1,)), ((1, 3), ()))

    def test_slots_one(self):
        self.leads(Slab([(1, 1), (2, 1), (3, 1)], 14), ((1, 1), (1, 1, 1), (1, 1)))
        self.leads(Slab([(1, 1)], 60), ((1,) * 60,))
        self.leads(Slab([(1, 1)], 60), ((1,) * 60,), ((1,) * 59,))

    def test_sixty_pages(self):
        self.leads(Slab([(1, 60)], 59 * 60 + 1), ((1,) * 60,))
        self.raises(Stuck((0,)), schedule, Slab([(1, 60)], 59 * 60), ((1,) * 60,))
        slab = Slab([(1, 60), (1, 2)], 10 ** 6)
        self.leads(slab, ((1,) * 30, (1,) * 29 + (2,)))
        self.leads(slab, ((60,) * 60, ()))
        self.leads(slab, ((1,) * 59, (2,)), ((1,) * 59, ()))
        self.leads(slab, ((1,) * 60, ()), ((1,) * 60, ()))
        self.same(len(self.leads(slab, ((2,) * 60, ()), ((1,) * 60, ()))), 60)

    def test_six_classes(self):
        slab = Slab([(1000, 60), (7, 1), (3, 20), (1, 60), (2, 33), (11, 5)], 10 ** 6)
        self.leads(slab, ((1,) * 10, (1,) * 10, (1,) * 10, (2,) * 10, (3,) * 10, (1,) * 9 + (5,)))
        self.leads(slab, ((1, 2), (1,) * 3, (4, 9), (60,) * 4, (), (5, 5)), ((2,), (1,), (), (7,), (), (5,)))

    def test_the_classes_of_the_error_are_those_of_order_of(self):
        for table, pins in (
            (((1, 1), (1, 1)), None), (((1, 1), (1, 1)), ((1, 1), ())), (((1, 1, 1), (1,)), None),
            (((1, 1, 1), ()), ((1,), ())), (((1, 1), (1, 1)), ((1,), (1,))), (((1, 1, 1), (1,)), ((1,), (1,))),
        ):
            word, numbers = order_of(SMALL, table, pins=pins)
            self.assertEqual(word, "stuck")
            self.raises(Stuck(numbers), schedule, SMALL, table, pins=pins)


class Errors(Case):
    def test_tables_and_pins(self):
        for table in ODD_VALUES + ODD_LISTS + [(), ((),)]:
            self.raises(NoTable(-1), schedule, SMALL, table)
            self.raises(NoTable(-1), schedule, SMALL, table, pins=0)
        self.raises(NoTable(1), schedule, SMALL, ((1,), (3,)))
        self.raises(NoTable(2), schedule, SMALL, ((1,) * 61, ()))
        self.raises(NoTable(3), schedule, SMALL, ((4, 4), ()), pins=[])
        for pins in ODD_VALUES[1:] + ODD_LISTS + [(), ((1,), (3,)), ((True,), ()), ((4, 4), ()), ((2,), ())]:
            self.raises(NoPins(pins), schedule, SMALL, ((1,), ()), pins=pins)

    def test_wrong_pins_are_told_before_stuck_classes(self):
        self.raises(NoPins(((2,), ())), schedule, SMALL, ((1, 1), (1, 1)), pins=((2,), ()))
        self.raises(NoTable(3), schedule, SMALL, ((1, 1), (2, 2)), pins=((2,), ()))


class Kept(Case):
    def test_arguments_are_not_changed(self):
        slab, table, pins = Slab([(1, 4), (2, 2)], 9), ((1, 3), (1, 1)), ((3,), (1,))
        before = copy.deepcopy((slab.classes(), slab.limit(), table, pins))
        schedule(slab, table, pins=pins)
        self.same((slab.classes(), slab.limit(), table, pins), before)

    def test_changed_results_change_nothing(self):
        first = schedule(Slab([(1, 4)], 5), ((1, 1),))
        kept = list(first)
        first.clear()
        self.same(schedule(Slab([(1, 4)], 5), ((1, 1),)), kept)
        none = schedule(SMALL, ((), ()))
        none.append(None)
        self.same(schedule(SMALL, ((), ())), [])

    def test_pins_none_and_pins_without_pages(self):
        slab = Slab(SMALL.classes(), 8)
        self.same(schedule(slab, ((1, 1), (1, 1)), pins=None), schedule(slab, ((1, 1), (1, 1))))
        self.same(schedule(slab, ((1, 1), (1, 1)), pins=((), ())), schedule(slab, ((1, 1), (1, 1))))

    def test_arguments_by_name(self):
        table, pins = ((1, 3), (1,)), ((3,), ())
        self.same(schedule(pins=pins, table=table, slab=SMALL), schedule(SMALL, table, pins=pins))
        with self.assertRaises(TypeError):
            schedule(SMALL, table, pins)
        self.defined(schedules, {"schedule": "(slab, table, *, pins=None)"})
