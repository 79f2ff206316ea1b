"""Point 5, and points 2 and 3 for slabs."""

import inspect

from slabpins.errors import NoClass, NoSlab
from slabpins.slabs import Slab
from tests.support import NO_INTEGERS, ODD_TUPLES, ODD_VALUES, Case


class Made(Case):
    def test_what_a_slab_tells(self):
        slab = Slab([(1, 4), (2, 3), (16, 60)], 70)
        self.same(slab.classes(), [(1, 4), (2, 3), (16, 60)])
        self.same(slab.limit(), 70)
        self.same(len(slab), 3)
        self.same([slab.bytes_of(number) for number in (0, 1, 2)], [1, 2, 16])
        self.same([slab.slots_of(number) for number in (0, 1, 2)], [4, 3, 60])

    def test_sizes_and_slots_at_the_edges(self):
        for size in (1, 2, 999, 1000):
            for slots in (1, 2, 59, 60):
                slab = Slab([(size, slots)], 0)
                self.same(slab.classes(), [(size, slots)])
                self.same((slab.bytes_of(0), slab.slots_of(0)), (size, slots))

    def test_limits_at_the_edges(self):
        for limit in (0, 1, 10 ** 6 - 1, 10 ** 6):
            self.same(Slab([(1000, 60)], limit).limit(), limit)

    def test_one_to_six_classes(self):
        for many in range(1, 7):
            classes = [(10 + number, 20 + number) for number in range(many)]
            slab = Slab(classes, 5)
            self.same(len(slab), many)
            self.same(slab.classes(), classes)
            self.same([slab.bytes_of(number) for number in range(many)], [10 + number for number in range(many)])
            self.same([slab.slots_of(number) for number in range(many)], [20 + number for number in range(many)])

    def test_equal_classes_are_kept_apart(self):
        self.same(Slab([(7, 2), (7, 2)], 9).classes(), [(7, 2), (7, 2)])


class Refused(Case):
    def test_classes_that_are_no_list_of_one_to_six(self):
        fine = (1, 1)
        wrong = ODD_VALUES + ODD_TUPLES + [7, [], [fine] * 7, [fine] * 100, (fine,), (fine, fine), {0: fine}, {fine}]
        for classes in wrong:
            self.raises(NoSlab(-1), Slab, classes, 7)

    def test_limits_that_are_no_limits(self):
        for limit in NO_INTEGERS + [-1, -10 ** 6, 10 ** 6 + 1, 10 ** 30]:
            self.raises(NoSlab(-1), Slab, [(1, 1)], limit)

    def test_items_that_are_no_size_classes(self):
        items = NO_INTEGERS + [5, (1, 1, 1), [1, 1], "11", (0, 1), (-1, 1), (1001, 1), (1, 0), (1, -1), (1, 61)]
        items += [(1, odd) for odd in NO_INTEGERS] + [(odd, 1) for odd in NO_INTEGERS]
        for item in items:
            self.raises(NoSlab(0), Slab, [item], 7)
            self.raises(NoSlab(1), Slab, [(1, 1), item, (2, 2)], 7)
            self.raises(NoSlab(5), Slab, [(1, 1)] * 5 + [item], 7)

    def test_the_first_wrong_item_counts(self):
        self.raises(NoSlab(1), Slab, [(1, 1), None, (0, 1)], 7)
        self.raises(NoSlab(0), Slab, [(1, 61), (1001, 1)], 7)
        self.raises(NoSlab(2), Slab, [(1, 60), (1000, 1), (1000, 61), (1001, 60)], 7)

    def test_a_wrong_list_or_limit_comes_before_a_wrong_item(self):
        self.raises(NoSlab(-1), Slab, [(0, 1)], -1)
        self.raises(NoSlab(-1), Slab, [None], True)
        self.raises(NoSlab(-1), Slab, [(0, 1)] * 7, 7)
        self.raises(NoSlab(-1), Slab, ((0, 1),), 7)
        self.raises(NoSlab(-1), Slab, None, None)


class Numbers(Case):
    def test_what_is_no_number_of_a_class(self):
        for many in (1, 2, 6):
            slab = Slab([(3, 2)] * many, 7)
            for number in NO_INTEGERS + [-1, -many, many, many + 1, 10 ** 30]:
                self.raises(NoClass(number), slab.bytes_of, number)
                self.raises(NoClass(number), slab.slots_of, number)

    def test_the_error_keeps_the_very_argument(self):
        number = [0, {}]
        for method in (Slab([(3, 2)], 7).bytes_of, Slab([(3, 2)], 7).slots_of):
            with self.assertRaises(NoClass) as caught:
                method(number)
            self.assertIs(caught.exception.number, number)


class Likeness(Case):
    def test_equal_slabs(self):
        self.assertTrue(Slab([(1, 4), (2, 2)], 7) == Slab([(1, 4), (2, 2)], 7))
        self.assertFalse(Slab([(1, 4), (2, 2)], 7) != Slab([(1, 4), (2, 2)], 7))

    def test_other_slabs(self):
        slab = Slab([(1, 4), (2, 2)], 7)
        others = [
            Slab([(1, 4), (2, 2)], 6), Slab([(2, 2), (1, 4)], 7), Slab([(1, 4)], 7),
            Slab([(1, 4), (2, 2), (2, 2)], 7), Slab([(1, 3), (2, 2)], 7), Slab([(1, 4), (3, 2)], 7),
        ]
        for other in others:
            self.assertFalse(slab == other)
            self.assertTrue(slab != other)

    def test_nothing_else_is_equal(self):
        slab = Slab([(1, 4)], 7)
        for other in NO_INTEGERS + [1, 7, [(1, 4)], ([(1, 4)], 7), [[(1, 4)], 7]]:
            self.assertIs(slab == other, False)
            self.assertIs(slab != other, True)
            self.assertIs(other == slab, False)

    def test_something_alike_is_not_equal(self):
        class Alike:
            def __init__(self, slab):
                vars(self).update(vars(slab))

            def classes(self):
                return [(1, 4)]

            def limit(self):
                return 7

        slab = Slab([(1, 4)], 7)
        self.assertIs(slab == Alike(slab), False)


class Kept(Case):
    def test_the_argument_is_not_changed(self):
        classes = [(3, 2), (1, 4)]
        slab = Slab(classes, 7)
        slab.classes().append((9, 9))
        self.same(classes, [(3, 2), (1, 4)])

    def test_a_later_change_of_the_argument_changes_nothing(self):
        classes = [(3, 2), (1, 4)]
        slab = Slab(classes, 7)
        classes[0] = (5, 5)
        classes.append((6, 6))
        self.same(slab.classes(), [(3, 2), (1, 4)])
        self.same((len(slab), slab.bytes_of(0), slab.slots_of(0)), (2, 3, 2))
        self.raises(NoClass(2), slab.bytes_of, 2)
        self.assertTrue(slab == Slab([(3, 2), (1, 4)], 7))

    def test_a_change_of_the_result_changes_nothing(self):
        slab = Slab([(3, 2), (1, 4)], 7)
        found = slab.classes()
        found[0] = (5, 5)
        found.pop()
        self.same(slab.classes(), [(3, 2), (1, 4)])
        self.same((len(slab), slab.bytes_of(0), slab.slots_of(1)), (2, 3, 4))
        self.assertIsNot(slab.classes(), slab.classes())

    def test_a_refused_argument_is_not_changed(self):
        classes = [(3, 2), [1, 4]]
        self.raises(NoSlab(1), Slab, classes, 7)
        self.same(classes, [(3, 2), [1, 4]])


class Names(Case):
    def test_arguments_by_name(self):
        slab = Slab(limit=7, classes=[(3, 2), (1, 4)])
        self.assertTrue(slab == Slab([(3, 2), (1, 4)], 7))
        self.same((slab.bytes_of(number=0), slab.slots_of(number=1)), (3, 4))
        self.raises(NoSlab(-1), Slab, classes=[(3, 2)], limit=-1)
        self.raises(NoClass(2), slab.bytes_of, number=2)
        self.raises(NoClass(2), slab.slots_of, number=2)

    def test_methods_stand_in_the_class_itself(self):
        for name in ("__init__", "classes", "limit", "bytes_of", "slots_of", "__len__", "__eq__"):
            self.assertTrue(inspect.isfunction(vars(Slab).get(name)), name)
        self.assertEqual(Slab.__module__, "slabpins.slabs")
