"""Points 40 to 43, and points 2 to 4 for the greatest number of pages."""

import copy
import itertools

from slabpins import greatest
from slabpins.arising import order_of
from slabpins.errors import NoClass, NoPages, NoPins, NoRows
from slabpins.greatest import check_page_rows, least_pages, most_pages, page_rows, refused_at
from slabpins.slabs import Slab
from slabpins.tables import check_table, empty
from tests.model import has, lacking, refuses, total
from tests.support import NO_INTEGERS, ODD_LISTS, ODD_TUPLES, ODD_VALUES, Case

SMALL = Slab([(1, 4), (2, 2)], 7)
WIDE = Slab([(1, 60), (1, 2)], 10 ** 6)
SIX = Slab([(1000, 60), (7, 1), (3, 20), (1, 60), (2, 33), (11, 5)], 5000)
MEDIUM = [
    (Slab([(1, 4), (2, 2), (3, 5)], 40), [((), (), ()), ((2,), (), (5,)), ((1, 1), (2, 2), ())]),
    (Slab([(2, 3), (5, 1)], 31), [((), ()), ((1, 3), ()), ((1,), (1, 1, 1))]),
    (Slab([(1, 9), (1, 5), (4, 2)], 30), [((), (), ()), ((9, 9), (1,), ()), ((), (), (1, 1))]),
    (Slab([(1, 2)] * 4, 9), [((),) * 4, ((1,), (), (2, 2), ())]),
]


def numbers_of(slab):
    """All numbers of pages that the classes could take one by one, and more."""
    return itertools.product(*[range(slab.limit() // (size * slots) + 3) for size, slots in slab.classes()])


class Checked(Case):
    def arises(self, slab, table, pins):
        check_table(slab, table)
        self.assertTrue(has(table, empty(slab) if pins is None else pins))
        self.assertEqual(order_of(slab, table, pins=pins)[0], "order")

    def most(self, number, slab, pins=None):
        found = most_pages(slab, pins=pins)
        self.assertEqual([type(part) for part in found], [int, tuple])
        self.same(found[0], number)
        self.same(total(found[1]), number)
        self.arises(slab, found[1], pins)
        rows = page_rows(slab, pins=pins)
        self.same(check_page_rows(slab, rows, pins=pins), number)
        self.same(check_page_rows(slab, rows[::-1], pins=pins), number)

    def found(self, slab, pages, number, pins=None):
        table = refused_at(slab, pages, number, pins=pins)
        self.assertIsInstance(table, tuple)
        self.arises(slab, table, pins)
        self.assertTrue(refuses(slab, table, pages, number))
        return table

    def none(self, slab, pages, number, pins=None):
        self.assertIsNone(refused_at(slab, pages, number, pins=pins))


class Most(Checked):
    def test_ordinary_slabs(self):
        self.most(3, SMALL)
        self.most(4, Slab(SMALL.classes(), 8))
        self.same(most_pages(Slab([(3, 2)], 2)), (0, ((),)))
        self.same(most_pages(Slab([(3, 2)], 3)), (1, ((1,),)))

    def test_the_limit_of_one_class(self):
        for limit, number in ((0, 0), (2, 0), (3, 1), (14, 1), (15, 2), (26, 2), (27, 3), (38, 3), (39, 4)):
            self.most(number, Slab([(3, 4)], limit))

    def test_a_class_of_its_own_for_few_pages_helps(self):
        # Each class is filled alone, and all but one object of each page are freed again.
        for many, number in ((1, 2), (2, 4), (3, 5), (4, 6), (5, 7), (6, 8)):
            self.most(number, Slab([(1, 7)] * many, 10))
        self.most(2, Slab([(1, 10), (1, 10)], 10))
        self.most(3, Slab([(1, 10), (1, 10)], 11))

    def test_slots_one(self):
        for limit in (0, 1, 7, 8, 9):
            self.most(limit // 2, Slab([(2, 1), (3, 1)], limit))

    def test_sixty_pages(self):
        for limit, number in ((59, 59), (60, 60), (61, 60), (10 ** 6, 60)):
            self.most(number, Slab([(1, 1)], limit))
        for limit, number in ((59 * 60, 59), (59 * 60 + 1, 60), (10 ** 6, 60)):
            self.most(number, Slab([(1, 60)], limit))
        self.most(60, Slab([(1, 1)] * 6, 10 ** 6))
        self.most(60, Slab([(1000, 1)] * 6, 60000))
        self.most(59, Slab([(1000, 1)] * 6, 59999))
        self.most(17, Slab([(1000, 60)], 10 ** 6))

    def test_the_limit_zero(self):
        self.most(0, Slab([(1, 1)], 0))
        self.same(most_pages(Slab([(1, 60), (5, 2)] * 3, 0)), (0, ((),) * 6))

    def test_pins(self):
        self.most(3, SMALL, ((4,), (1,)))
        self.most(2, Slab(SMALL.classes(), 6), ((4,), (1,)))
        self.most(4, SMALL, ((1, 1), (1, 1)))
        self.most(3, Slab([(1, 4)], 9), ((3,),))
        self.most(2, Slab([(1, 4)], 8), ((3,),))
        self.most(3, Slab([(1, 4), (2, 5)], 11), ((), (3,)))
        self.most(2, Slab([(1, 4), (2, 5)], 10), ((), (3,)))
        self.most(1, Slab([(1, 4), (2, 5)], 10), ((), (5,)))

    def test_pins_need_not_arise(self):
        self.assertEqual(order_of(SMALL, ((1, 1), (1, 1)))[0], "stuck")
        self.same(most_pages(SMALL, pins=((1, 1), (1, 1))), (4, ((1, 1), (1, 1))))
        self.most(5, Slab([(1, 4), (2, 2), (1, 1)], 7), ((1, 1), (1, 1), ()))

    def test_pins_of_sixty_pages(self):
        for pins in (((1,) * 60, ()), ((60,) * 60, ()), ((1,) * 30, (1,) * 30), ((), (2,) * 60)):
            self.same(most_pages(WIDE, pins=pins), (60, pins))
            self.same(page_rows(WIDE, pins=pins), [((), 0, 0)])
        self.most(60, WIDE, ((1,) * 59, ()))
        self.most(59, Slab([(1, 60), (1, 2)], 59), ((1,) * 59, ()))
        self.most(60, Slab([(1, 60), (1, 2)], 60), ((1,) * 59, ()))

    def test_all_numbers_of_further_pages(self):
        for slab, several in MEDIUM:
            for pins in several:
                number = 0
                for many in numbers_of(slab):
                    table = tuple((1,) * more + least for more, least in zip(many, pins))
                    live = sum(slab.bytes_of(at) * sum(counts) for at, counts in enumerate(table))
                    if live <= slab.limit() and order_of(slab, table, pins=pins)[0] == "order":
                        number = max(number, total(table))
                self.most(number, slab, pins)


class Refused(Checked):
    def test_ordinary_requests(self):
        self.same(refused_at(Slab([(1, 2)], 3), 1, 0), ((2,),))
        self.none(SMALL, 3, 1)
        self.none(SMALL, 3, 0)
        self.found(SMALL, 2, 0)
        self.found(SMALL, 2, 1)

    def test_no_pages_at_all(self):
        for number in range(2):
            self.same(refused_at(SMALL, 0, number), ((), ()))
        self.none(Slab([(3, 2)], 2), 0, 0)
        self.same(refused_at(Slab([(3, 2)], 3), 0, 0), ((),))
        self.none(Slab([(1, 1), (2, 1)], 1), 0, 1)
        self.none(Slab([(1, 1)], 0), 0, 0)

    def test_the_object_would_fit(self):
        # Two full pages hold 24 bytes, and the object has 3 more.
        self.same(refused_at(Slab([(3, 4)], 27), 2, 0), ((4, 4),))
        self.none(Slab([(3, 4)], 26), 2, 0)
        self.same(refused_at(Slab([(3, 4), (9, 1)], 15), 2, 1), ((1, 1), ()))
        self.none(Slab([(3, 4), (9, 1)], 14), 2, 1)
        self.none(Slab([(3, 4), (5, 9)], 14), 2, 0)

    def test_all_pages_belong_to_other_classes(self):
        self.same(self.found(Slab([(1, 5), (9, 2)], 11), 2, 1), ((1, 1), ()))
        self.same(self.found(Slab([(9, 2), (1, 5)], 11), 2, 0), ((), (1, 1)))
        self.none(Slab([(9, 2), (1, 5)], 10), 2, 0)

    def test_full_pages_beside_those_of_other_classes(self):
        self.same(self.found(Slab([(1, 9), (4, 2)], 14), 3, 1), ((1, 1), (2,)))
        self.none(Slab([(1, 9), (4, 2)], 13), 3, 1)

    def test_the_greatest_number_of_pages(self):
        self.found(Slab([(1, 1)], 61), 60, 0)
        self.none(Slab([(1, 1)], 60), 60, 0)
        self.found(Slab([(1, 60)], 3601), 60, 0)
        self.none(Slab([(1, 60)], 3600), 60, 0)
        self.found(WIDE, 60, 0)
        self.found(WIDE, 60, 1)
        self.found(SIX, 60, 0)
        self.found(Slab([(1000, 60)] * 6, 10 ** 6), 60, 5)

    def test_pins(self):
        slab = Slab([(1, 4)], 10)
        self.same(self.found(slab, 1, 0, ((3,),)), ((4,),))
        self.same(self.found(slab, 2, 0, ((3,),)), ((4, 4),))
        self.none(Slab([(1, 4)], 8), 2, 0, ((3,),))
        self.none(slab, 3, 0, ((1, 1, 1),))
        self.same(self.found(SMALL, 2, 1, ((1, 3), ())), ((1, 3), ()))
        self.none(SMALL, 2, 1, ((2, 4), ()))
        self.same(self.found(SMALL, 1, 0, ((4,), ())), ((4,), ()))

    def test_pins_of_other_classes_stay(self):
        slab = Slab([(1, 4), (2, 3)], 9)
        self.same(self.found(slab, 2, 0, ((), (2,))), ((4,), (2,)))
        self.same(self.found(slab, 2, 0, ((), (3,))), ((), (1, 3)))
        self.none(Slab([(1, 4), (2, 3)], 8), 2, 0, ((), (3,)))
        self.none(slab, 2, 1, ((2,), (1,)))
        self.same(self.found(Slab([(1, 4), (2, 3)], 10), 2, 1, ((2,), (1,))), ((2,), (3,)))

    def test_as_many_pages_as_the_pins(self):
        self.none(Slab([(1, 1)], 2), 2, 0, ((1, 1),))
        self.same(self.found(Slab([(1, 1)], 5), 2, 0, ((1, 1),)), ((1, 1),))
        self.found(WIDE, 60, 0, ((1,) * 60, ()))
        self.found(WIDE, 60, 1, ((1,) * 60, ()))
        self.none(Slab([(1, 60), (1, 2)], 60), 60, 1, ((1,) * 60, ()))
        self.found(Slab([(1, 60), (1, 2)], 61), 60, 1, ((1,) * 60, ()))

    def test_by_all_tables_of_further_pages(self):
        for slab, several in MEDIUM:
            for pins in several:
                for number in range(len(slab)):
                    expected = self.refusing(slab, pins, number)
                    for pages in range(total(pins), total(pins) + 8):
                        if pages in expected:
                            self.found(slab, pages, number, pins)
                        else:
                            self.none(slab, pages, number, pins)

    def refusing(self, slab, pins, number):
        pages = []
        for many in numbers_of(slab):
            table = [(1,) * more + least for more, least in zip(many, pins)]
            table[number] = (slab.slots_of(number),) * len(table[number])
            live = sum(slab.bytes_of(at) * sum(counts) for at, counts in enumerate(table))
            if live + slab.bytes_of(number) <= slab.limit():
                if order_of(slab, tuple(table), pins=pins)[0] == "order":
                    pages.append(total(table))
        return pages


class Least(Checked):
    def least(self, number, slab, pins=None):
        self.same(least_pages(slab, pins=pins), number)

    def test_ordinary_slabs(self):
        self.least(3, SMALL)
        self.least(0, Slab([(3, 2)], 2))
        self.least(0, Slab([(1, 60), (5, 2)] * 3, 0))
        self.least(1, Slab([(3, 2)], 3))

    def test_sixty_pages(self):
        for limit, number in ((59, 59), (60, 60), (61, None), (10 ** 6, None)):
            self.least(number, Slab([(1, 1)], limit))
            self.least(number, Slab([(1, 1)] * 6, limit))
        for limit, number in ((3540, 59), (3541, 60), (3600, 60), (3601, None)):
            self.least(number, Slab([(1, 60)], limit))
        self.least(None, WIDE)

    def test_one_class_of_several_is_refused(self):
        # Beside sixty pages of class 0, five bytes are left.
        self.least(60, Slab([(5, 1), (6, 1)], 304))
        self.least(None, Slab([(5, 1), (6, 1)], 305))
        self.least(None, Slab([(6, 1), (5, 1)], 305))

    def test_pins(self):
        self.least(3, SMALL, ((4,), (1,)))
        self.least(4, SMALL, ((1, 1), (1, 1)))
        self.least(3, Slab([(1, 4)], 9), ((3,),))
        self.least(2, Slab([(1, 4)], 8), ((3,),))

    def test_pins_of_sixty_pages(self):
        pins = ((1,) * 60, ())
        self.least(60, Slab([(1, 60), (1, 2)], 60), pins)
        self.least(None, Slab([(1, 60), (1, 2)], 61), pins)
        self.least(60, Slab([(1, 60)], 3600), ((1,) * 60,))
        self.least(None, Slab([(1, 60)], 3601), ((1,) * 60,))
        self.least(60, Slab([(1, 60), (1, 2)], 60), ((1,) * 59, ()))
        self.least(59, Slab([(1, 60), (1, 2)], 59), ((1,) * 59, ()))

    def test_it_is_the_first_number_with_which_nothing_is_refused(self):
        for slab, several in MEDIUM:
            for pins in several:
                number = least_pages(slab, pins=pins)
                self.same(number, most_pages(slab, pins=pins)[0])
                for pages in range(total(pins), number + 2):
                    tables = [refused_at(slab, pages, at, pins=pins) for at in range(len(slab))]
                    self.assertEqual(pages >= number, tables == [None] * len(slab))


class Rows(Checked):
    def test_ordinary_rows(self):
        self.same(page_rows(Slab([(2, 1)], 4)), [((), 0, 0), ((0,), 1, 2), ((0,), 2, 4)])
        self.same(page_rows(SMALL), [
            ((), 0, 0), ((0,), 1, 1), ((0,), 2, 2), ((0, 1), 2, 3), ((0, 1), 3, 4), ((1,), 1, 2), ((1,), 2, 4),
        ])
        self.same(page_rows(Slab([(1, 1)], 0)), [((), 0, 0)])

    def test_the_least_bytes(self):
        # One page of class 0 and two of class 1 hold five bytes, the other way round four.
        self.assertIn(((0, 1), 3, 4), page_rows(Slab([(1, 4), (2, 2)], 8)))
        self.assertIn(((0, 1), 4, 5), page_rows(Slab([(1, 1), (2, 1)], 5)))
        self.assertIn(((0, 1), 4, 5), page_rows(Slab([(2, 1), (1, 1)], 5)))

    def test_pins(self):
        self.same(page_rows(Slab([(1, 4)], 9), pins=((3,),)), [((), 0, 0), ((0,), 1, 1), ((0,), 2, 2)])
        self.same(page_rows(Slab([(1, 4)], 8), pins=((3,),)), [((), 0, 0), ((0,), 1, 1)])
        self.same(page_rows(SMALL, pins=((4,), (1,))), [((), 0, 0), ((0,), 1, 1)])
        self.same(page_rows(SMALL, pins=((1,), (1, 2))), [((), 0, 0)])

    def test_sixty_pages(self):
        rows = page_rows(Slab([(2, 1)], 10 ** 6))
        self.same(rows, [((), 0, 0)] + [((0,), count, 2 * count) for count in range(1, 61)])
        self.same(check_page_rows(Slab([(2, 1)], 10 ** 6), rows), 60)
        rows = page_rows(Slab([(2, 1)], 10 ** 6), pins=((1,) * 58,))
        self.same(rows, [((), 0, 0), ((0,), 1, 2), ((0,), 2, 4)])
        self.same(check_page_rows(Slab([(2, 1)], 10 ** 6), rows, pins=((1,) * 58,)), 60)

    def test_six_classes(self):
        for slab in (SIX, Slab([(1, 1)] * 6, 10 ** 6)):
            rows = page_rows(slab)
            self.same(rows, sorted(rows))
            self.same(len(set(row[:2] for row in rows)), len(rows))
            self.assertIsNone(lacking(slab, rows, empty(slab)))
            self.same(check_page_rows(slab, rows), 60)

    def test_each_row_less(self):
        for slab, several in MEDIUM[:2]:
            for pins in several:
                rows = page_rows(slab, pins=pins)
                for index, row in enumerate(rows):
                    self.compare(slab, rows[:index] + rows[index + 1:], pins)
                    self.compare(slab, rows[index + 1:] + rows[:index], pins)

    def test_each_row_with_other_bytes(self):
        for slab, several in MEDIUM[:2]:
            for pins in several:
                rows = page_rows(slab, pins=pins)
                for index, (numbers, count, size) in enumerate(rows):
                    for other in (size + 1, size - 1, -size, -5, 10 ** 9, -10 ** 9):
                        self.compare(slab, rows[:index] + [(numbers, count, other)] + rows[index + 1:], pins)

    def test_further_rows(self):
        for slab, several in MEDIUM[:2]:
            for pins in several:
                rows = page_rows(slab, pins=pins)
                most = total(pins) + max(row[1] for row in rows)
                for numbers in [(), (0,), (1,), (0, 1), tuple(range(len(slab)))]:
                    for count in (0, 1, most + 1, 60 - total(pins), 60):
                        for size in (-1, 4, 10 ** 6):
                            self.compare(slab, rows + [(numbers, count, size)], pins)

    def compare(self, slab, rows, pins):
        index = lacking(slab, rows, pins)
        if index is None:
            expected = total(pins) + max(row[1] for row in rows)
            self.same(check_page_rows(slab, rows, pins=pins), expected)
        else:
            self.raises(NoRows(index), check_page_rows, slab, rows, pins=pins)


class NoClosedList(Checked):
    def bad(self, index, slab, rows, pins=None):
        self.raises(NoRows(index), check_page_rows, slab, rows, pins=pins)

    def test_what_is_no_list(self):
        for rows in ODD_VALUES + ODD_TUPLES + [0, -1, (((), 0, 0),), {((), 0, 0)}, "rows", ((), 0, 0)]:
            self.bad(-1, Slab([(2, 1)], 1), rows)

    def test_items_that_are_no_rows(self):
        items = NO_INTEGERS + [0, [(), 0, 0], ((), 0), ((), 0, 0, 0), ((),), (0, (), 0), ([], 1, 0), ({}, 1, 0)]
        items += [(odd, 1, 0) for odd in ODD_VALUES + ODD_LISTS + [0, [0], "0", {0: 0}]]
        items += [((odd,), 1, 0) for odd in NO_INTEGERS + [-1, 2, 3, 10 ** 30]]
        items += [((0,), odd, 0) for odd in NO_INTEGERS + [-1, 61, 10 ** 30]]
        items += [((0,), 1, odd) for odd in NO_INTEGERS]
        items += [((1, 0), 1, 0), ((0, 0), 1, 0), ((0, 1, 1), 1, 0), ((0, 2), 1, 0), ((0, True), 1, 0), ((-1, 0), 1, 0)]
        for item in items:
            self.bad(0, SMALL, [item])
            self.bad(1, SMALL, [((), 0, 0), item])
            self.bad(1, SMALL, [((), 0, 1), item, item])
            self.bad(7, SMALL, page_rows(SMALL) + [item])

    def test_rows_at_the_edges(self):
        rows = page_rows(SMALL)
        for row in (((0, 1), 60, 10 ** 30), ((0, 1), 0, -10 ** 30), ((0,), 0, 8), ((1,), 59, 7), ((0, 1), 60, -1)):
            self.same(check_page_rows(SMALL, rows + [row]), max(3, row[1]))
        self.same(check_page_rows(SMALL, rows + [((0, 1), 60, 0)], pins=((1,), ())), 61)

    def test_repeated_rows(self):
        for row in page_rows(SMALL):
            self.bad(7, SMALL, page_rows(SMALL) + [row])
            self.bad(7, SMALL, page_rows(SMALL) + [row[:2] + (-9,), row])
        self.bad(1, SMALL, [((), 0, 1), ((), 0, 0)])

    def test_no_first_row(self):
        self.bad(0, SMALL, [])
        self.bad(6, SMALL, page_rows(SMALL)[1:])
        self.bad(1, SMALL, [((), 0, 1)])
        self.bad(7, SMALL, [((), 0, 1)] + page_rows(SMALL)[1:])
        self.bad(1, Slab([(2, 1)], 1), [((), 1, 0)])
        self.bad(1, Slab([(2, 1)], 1), [((0,), 0, 0)])
        self.same(check_page_rows(Slab([(2, 1)], 1), [((), 0, 0)]), 0)
        self.same(check_page_rows(Slab([(2, 1)], 1), [((), 0, -1)] + [((0,), 1, 1)]), 1)

    def test_a_follower_is_missing(self):
        slab = Slab([(2, 1)], 4)
        self.bad(3, slab, [((), 0, 0), ((0,), 1, 2)])
        self.bad(4, slab, [((0,), 1, 2), ((), 0, 0)])
        self.bad(3, slab, [((), 0, 0), ((0,), 2, 4)])
        self.bad(4, slab, [((), 0, 0), ((0,), 1, 2), ((0,), 2, 5)])
        self.bad(4, slab, [((), 0, -1), ((0,), 1, 1), ((0,), 2, 4)])
        self.same(check_page_rows(slab, [((), 0, -1), ((0,), 1, 1), ((0,), 2, 3)]), 2)
        self.bad(4, slab, [((), 0, -2), ((0,), 1, 0), ((0,), 2, 2)])

    def test_the_first_row_that_lacks_a_follower(self):
        rows = page_rows(SMALL)
        without = [row for row in rows if row != ((0, 1), 2, 3)]
        self.bad(6 + 1 + 1, SMALL, without)
        self.bad(6 + 1, SMALL, [((1,), 1, 2)] + [row for row in without if row != ((1,), 1, 2)])

    def test_only_as_many_pages_as_there_is_room(self):
        slab, pins = Slab([(2, 1)], 10 ** 6), ((1,) * 59,)
        self.same(check_page_rows(slab, [((), 0, 0), ((0,), 1, 2)], pins=pins), 60)
        self.bad(2, slab, [((), 0, 0)], pins)
        self.same(check_page_rows(slab, [((), 0, 0)], pins=((1,) * 60,)), 60)

    def test_several_errors_at_once(self):
        self.bad(-1, SMALL, (None,))
        self.bad(0, SMALL, [None, ((), 0, 0), ((), 0, 0)])
        self.bad(1, SMALL, [((0,), 1, 1), ((0,), 1, 1), None])
        self.bad(2, SMALL, [((0,), 1, 1), ((1,), 1, 9)])


class Errors(Checked):
    def calls(self, error, slab, pins):
        for call in (most_pages, least_pages, page_rows):
            self.raises(error, call, slab, pins=pins)
        for pages, number in ((2, 0), (-1, 0), (2, 9), (None, None), ([], {})):
            self.raises(error, refused_at, slab, pages, number, pins=pins)
        for rows in ([((), 0, 0)], None, [], [None]):
            self.raises(error, check_page_rows, slab, rows, pins=pins)

    def test_pins_that_are_no_table(self):
        odd = [value for value in ODD_VALUES if value is not None]
        for pins in odd + ODD_LISTS + ODD_TUPLES + [0, 1, ((),), ((), (), ()), [(), ()], "ab"]:
            self.calls(NoPins(pins), SMALL, pins)
        for item in ODD_VALUES + ODD_LISTS + [1, [1]]:
            self.calls(NoPins((item, ())), SMALL, (item, ()))
            self.calls(NoPins(((1,), item)), SMALL, ((1,), item))
        for odd in NO_INTEGERS + [0, -1, 5]:
            self.calls(NoPins(((odd,), ())), SMALL, ((odd,), ()))
        for pins in (((2, 1), ()), ((), (3,)), ((4, 4), ()), ((3,), (1, 2))):
            self.calls(NoPins(pins), SMALL, pins)
        for pins in (((1,) * 61, ()), ((1,) * 60, (1,))):
            self.calls(NoPins(pins), WIDE, pins)

    def test_numbers_of_pages(self):
        for pages in NO_INTEGERS + [-1, -2, 61, 10 ** 30]:
            self.raises(NoPages(pages), refused_at, SMALL, pages, 0)
            self.raises(NoPages(pages), refused_at, SMALL, pages, 2)
            self.raises(NoPages(pages), refused_at, SMALL, pages, None, pins=((1,), ()))
        for pages in (0, 1, 2):
            self.raises(NoPages(pages), refused_at, SMALL, pages, 0, pins=((1, 1), (1,)))
        self.raises(NoPages(59), refused_at, WIDE, 59, 0, pins=((1,) * 60, ()))
        self.none(SMALL, 60, 0)
        self.none(SMALL, 60, 0, ((1, 1), (1,)))
        self.none(SMALL, 3, 0, ((1, 1), (1,)))

    def test_classes(self):
        for number in NO_INTEGERS + [-1, -2, 2, 10 ** 30]:
            self.raises(NoClass(number), refused_at, SMALL, 2, number)
            self.raises(NoClass(number), refused_at, SMALL, 0, number, pins=((), ()))
            self.raises(NoClass(number), refused_at, SMALL, 60, number, pins=((1, 1), (1, 1)))


class Kept(Checked):
    def test_arguments_are_not_changed(self):
        slab, pins = Slab([(1, 4), (2, 2)], 9), ((3,), (1,))
        rows = page_rows(slab, pins=pins)[::-1]
        before = copy.deepcopy((slab.classes(), slab.limit(), pins, rows))
        most_pages(slab, pins=pins)
        least_pages(slab, pins=pins)
        refused_at(slab, 3, 1, pins=pins)
        check_page_rows(slab, rows, pins=pins)
        self.raises(NoRows(len(rows)), check_page_rows, slab, rows + [None], pins=pins)
        self.same((slab.classes(), slab.limit(), pins, rows), before)
        bad = [((), 0, 0), ([1, 0], 3, 4)]
        self.raises(NoRows(1), check_page_rows, slab, bad)
        self.same(bad, [((), 0, 0), ([1, 0], 3, 4)])

    def test_changed_results_change_nothing(self):
        first = page_rows(SMALL)
        kept = list(first)
        first.clear()
        self.same(page_rows(SMALL), kept)

    def test_equal_arguments_give_equal_results(self):
        for limit in (7, 8, 30):
            for pins in (None, ((1,), ()), ((2,), (1,))):
                results = []
                for turn in range(2):
                    slab = Slab([(1, 4), (2, 2)], limit)
                    rows = page_rows(slab, pins=pins)
                    results.append([
                        most_pages(slab, pins=pins), least_pages(slab, pins=pins), rows,
                        refused_at(slab, 3, 1, pins=pins), check_page_rows(slab, rows, pins=pins),
                    ])
                    most_pages(Slab([(1, 1)], 3))
                self.same(results[0], results[1])

    def test_pins_none_and_pins_without_pages(self):
        for call in (most_pages, least_pages, page_rows):
            self.same(call(SMALL, pins=None), call(SMALL))
            self.same(call(SMALL, pins=((), ())), call(SMALL))
        for pages in range(4):
            self.same(refused_at(SMALL, pages, 1, pins=((), ())), refused_at(SMALL, pages, 1))
            self.same(refused_at(SMALL, pages, 1, pins=None), refused_at(SMALL, pages, 1))
        self.same(check_page_rows(SMALL, page_rows(SMALL), pins=((), ())), 3)
        self.same(check_page_rows(SMALL, page_rows(SMALL), pins=None), 3)

    def test_equal_classes_and_a_change_of_the_list(self):
        classes = [(1, 4), (2, 2)]
        slab = Slab(classes, 7)
        classes[0] = (1, 1)
        self.same(page_rows(slab), page_rows(SMALL))


class Names(Checked):
    def test_arguments_by_name(self):
        pins = ((1,), ())
        for call in (most_pages, least_pages, page_rows):
            self.same(call(pins=pins, slab=SMALL), call(SMALL, pins=pins))
            with self.assertRaises(TypeError):
                call(SMALL, None)
        rows = page_rows(SMALL, pins=pins)
        self.same(check_page_rows(pins=pins, rows=rows, slab=SMALL), check_page_rows(SMALL, rows, pins=pins))
        self.same(refused_at(pins=pins, number=1, pages=2, slab=SMALL), refused_at(SMALL, 2, 1, pins=pins))
        with self.assertRaises(TypeError):
            refused_at(SMALL, 2, 1, None)
        with self.assertRaises(TypeError):
            check_page_rows(SMALL, rows, None)

    def test_functions_are_defined_in_this_module(self):
        self.defined(greatest, {
            "most_pages": "(slab, *, pins=None)", "refused_at": "(slab, pages, number, *, pins=None)",
            "least_pages": "(slab, *, pins=None)", "page_rows": "(slab, *, pins=None)",
            "check_page_rows": "(slab, rows, *, pins=None)",
        })
