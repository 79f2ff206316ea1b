"""Compares arising, schedules and greatest with a search over all possible steps of small slabs.

These are points 4, 14, 15, 16, 18, 40, 41, 42 and 43, each with all pins and all tables.
"""

import itertools

from slabpins.arising import check_order, order_of
from slabpins.errors import NoCertificate, NoPins, Stuck
from slabpins.greatest import check_page_rows, least_pages, most_pages, page_rows, refused_at
from slabpins.schedules import schedule
from slabpins.slabs import Slab
from slabpins.tables import empty
from tests.model import SLABS, after, further, has, is_table, reached, refuses, tables_of, total, verdict
from tests.support import Case

MORE = [
    Slab([(1, 4), (2, 2)], 6), Slab([(1, 4), (2, 2)], 7), Slab([(1, 3), (2, 2)], 6), Slab([(1, 1), (1, 3)], 5),
    Slab([(2, 2), (3, 2)], 11), Slab([(1, 2), (1, 3), (2, 2)], 6), Slab([(1, 2), (1, 1), (1, 2), (2, 2)], 5),
    Slab([(3, 2)], 2), Slab([(1, 1), (2, 1)], 0), Slab([(1, 1), (1, 2)], 3),
]


def proper(slab):
    return [table for table in tables_of(slab) if is_table(slab, table)]


class Reached(Case):
    def test_what_arises(self):
        for slab in SLABS + MORE:
            tables = proper(slab)
            for pins in tables:
                found = reached(slab, pins)
                for table in tables:
                    if has(table, pins):
                        self.decided(slab, table, pins, table in found)
                    else:
                        self.outside(slab, table, pins)

    def decided(self, slab, table, pins, arises):
        answer = order_of(slab, table, pins=pins)
        self.assertEqual(answer[0], "order" if arises else "stuck")
        self.assertIsNone(verdict(slab, table, pins, answer))
        self.assertIsNone(check_order(slab, table, answer, pins=pins))
        if arises:
            self.follow(slab, table, pins, schedule(slab, table, pins=pins))
        else:
            self.raises(Stuck(answer[1]), schedule, slab, table, pins=pins)

    def follow(self, slab, table, pins, row):
        self.assertIsInstance(row, list)
        way = pins
        for step in row:
            way = after(slab, way, step)
            self.assertIsNotNone(way)
            self.assertTrue(has(way, pins))
        self.same(way, table)

    def outside(self, slab, table, pins):
        for call in (order_of, schedule):
            self.raises(NoPins(pins), call, slab, table, pins=pins)
        self.raises(NoPins(pins), check_order, slab, table, ("order", ()), pins=pins)

    def test_all_answers(self):
        for slab in MORE[:7]:
            tables = proper(slab)
            for pins in (empty(slab), tables[len(tables) // 4], tables[1]):
                for table in tables[::3]:
                    if has(table, pins):
                        self.answered(slab, table, pins)

    def answered(self, slab, table, pins):
        classes = range(-1, len(slab) + 1)
        for many in range(min(len(slab), 3) + 1):
            for numbers in itertools.product(classes, repeat=many):
                for word in ("order", "stuck"):
                    index = verdict(slab, table, pins, (word, numbers))
                    if index is None:
                        self.assertIsNone(check_order(slab, table, (word, numbers), pins=pins))
                    else:
                        error = NoCertificate(index)
                        self.raises(error, check_order, slab, table, (word, numbers), pins=pins)

    def test_no_class_could_be_the_last_of_stuck_ones(self):
        for slab in MORE:
            for table in proper(slab):
                word, numbers = order_of(slab, table)
                if word == "stuck":
                    self.assertTrue(set(numbers) <= set(further(table, empty(slab))))
                    for order in itertools.permutations(numbers):
                        self.assertIsNotNone(verdict(slab, table, empty(slab), ("order", order)))


class Greatest(Case):
    def test_the_greatest_number_of_pages(self):
        for slab in SLABS + MORE:
            for pins in proper(slab):
                found = reached(slab, pins)
                most = max(map(total, found))
                number, table = most_pages(slab, pins=pins)
                self.same(number, most)
                self.assertEqual(total(table), most)
                self.assertIn(table, found)
                self.proved(slab, pins, most)

    def proved(self, slab, pins, most):
        rows = page_rows(slab, pins=pins)
        self.same(rows, sorted(rows))
        self.same(check_page_rows(slab, rows, pins=pins), most)
        self.same(check_page_rows(slab, rows[::-1], pins=pins), most)
        self.same(check_page_rows(slab, rows[1::2] + rows[::2], pins=pins), most)

    def test_refused_requests(self):
        for slab in SLABS + MORE:
            for pins in proper(slab):
                self.refused(slab, pins, most_pages(slab, pins=pins)[0])

    def refused(self, slab, pins, most):
        sound = []
        for pages in range(total(pins), most + 3):
            found = reached(slab, pins, pages)
            for number in range(len(slab)):
                table = refused_at(slab, pages, number, pins=pins)
                expected = any(refuses(slab, way, pages, number) for way in found)
                self.assertEqual(table is not None, expected)
                if table is not None:
                    self.assertIn(table, found)
                    self.assertTrue(refuses(slab, table, pages, number))
                sound.append((table is None, pages))
        granted = [pages for pages in range(total(pins), most + 3) if (False, pages) not in sound]
        self.same(least_pages(slab, pins=pins), min(granted))
        self.same(most, min(granted))

    def test_the_least_bytes_of_the_rows(self):
        for slab in MORE:
            for pins in proper(slab)[::4]:
                least = {}
                for table in reached(slab, pins):
                    many = further(table, pins)
                    key = (tuple(sorted(many)), sum(many.values()))
                    size = sum(slab.bytes_of(number) * pages for number, pages in many.items())
                    least[key] = min(size, least.get(key, size))
                self.same(page_rows(slab, pins=pins), sorted(key + (size,) for key, size in least.items()))
