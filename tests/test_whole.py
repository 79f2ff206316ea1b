"""Point 4: what the functions say together, compared with a search over all possible steps of small slabs."""

import itertools

from slabpins.arising import order_of
from slabpins.errors import NoCertificate, NoTable, Stuck
from slabpins.greatest import least_pages, most_pages
from slabpins.limits import check_limit, least_limit, most_beside
from slabpins.schedules import schedule
from slabpins.search import all_arising, fewest_steps, page_numbers
from slabpins.slabs import Slab
from slabpins.tables import played
from tests.model import further, has, held, least, reached, shown, tables_of, total, unlimited
from tests.support import Case

# Size classes, and a limit up to which all tables with all pins are looked at.
SMALL = [
    ([(1, 2)], 5), ([(2, 3)], 9), ([(1, 1), (2, 2)], 5), ([(3, 2), (2, 2)], 8), ([(1, 3), (1, 2)], 5),
    ([(1, 2), (2, 1), (3, 2)], 6), ([(1, 4), (2, 2)], 6), ([(1, 2), (1, 2), (1, 1)], 4),
]


def tables_within(classes, limit):
    slab = Slab(classes, limit)
    return [table for table in tables_of(slab) if held(slab, table) <= limit]


class Limits(Case):
    def test_the_least_limit_by_all_possible_steps(self):
        for classes, limit in SMALL:
            for pins in tables_within(classes, limit):
                self.compare(classes, limit, pins)

    def compare(self, classes, limit, pins):
        missing = [table for table in tables_within(classes, limit) if has(table, pins)]
        for bound in range(held(Slab(classes, limit), pins), limit + 1):
            found = reached(Slab(classes, bound), pins)
            for table in missing:
                if table in found:
                    self.first(classes, bound, table, pins)
            missing = [table for table in missing if table not in found]
        for table in missing:
            self.assertGreater(least_limit(classes, table, pins=pins)[0], limit)

    def first(self, classes, bound, table, pins):
        """This is the first limit with which the steps lead to the table."""
        answer = least_limit(classes, table, pins=pins)
        self.same(answer[0], bound)
        self.same(least(classes, table, pins), bound)
        self.assertIsNone(check_limit(classes, table, answer, pins=pins))
        slab = Slab(classes, bound)
        self.assertEqual(order_of(slab, table, pins=pins)[0], "order")
        self.same(played(slab, pins, schedule(slab, table, pins=pins)), table)
        if held(slab, table) < bound:
            below = Slab(classes, bound - 1)
            self.assertEqual(order_of(below, table, pins=pins)[0], "stuck")
            with self.assertRaises(Stuck):
                schedule(below, table, pins=pins)
            self.assertIsNone(fewest_steps(below, table, pins=pins))
        elif bound > 0:
            error = NoTable(len(classes) + 1)
            self.raises(error, order_of, Slab(classes, bound - 1), table, pins=pins)

    def test_all_certificates(self):
        for classes, limit in SMALL[2:]:
            tables = tables_within(classes, limit)
            for pins in (tables[0], tables[1], tables[len(tables) // 3]):
                for table in tables[::4]:
                    if has(table, pins):
                        self.certified(classes, table, pins)

    def certified(self, classes, table, pins):
        first, live = least_limit(classes, table, pins=pins)[0], held(Slab(classes, 10 ** 6), table)
        correct = 0
        for many in range(len(classes) + 1):
            for numbers in itertools.permutations(further(table, pins), many):
                for limit in sorted({first - 1, first, first + 1, live, shown(classes, table, pins, numbers)}):
                    index = unlimited(classes, table, pins, (limit, numbers))
                    if index is None:
                        correct += 1
                        self.assertIsNone(check_limit(classes, table, (limit, numbers), pins=pins))
                    else:
                        error = NoCertificate(index)
                        self.raises(error, check_limit, classes, table, (limit, numbers), pins=pins)
        self.assertGreater(correct, 0)


class Beside(Case):
    def test_the_greatest_numbers_by_all_possible_steps(self):
        for classes, limit in SMALL:
            slab = Slab(classes, limit)
            tables = tables_within(classes, limit)
            for pins in tables:
                numbers = {tuple(map(len, table)) for table in reached(slab, pins)}
                self.same(page_numbers(slab, pins=pins), sorted(numbers))
                for table in tables:
                    if has(table, pins):
                        self.compare(slab, table, pins, numbers)

    def compare(self, slab, table, pins, numbers):
        pages = tuple(map(len, table))
        expected = []
        for number in range(len(slab)):
            several = [many[number] for many in numbers
                       if many[:number] + many[number + 1:] == pages[:number] + pages[number + 1:]]
            expected.append(max(several, default=None))
        self.same(most_beside(slab, table, pins=pins), expected)


class Search(Case):
    def test_the_search_and_the_other_functions(self):
        for classes, limit in SMALL:
            slab = Slab(classes, limit)
            tables = tables_within(classes, limit)
            for pins in tables:
                found = all_arising(slab, pins=pins)
                self.same(found, sorted(reached(slab, pins)))
                ordered = [table for table in tables
                           if has(table, pins) and order_of(slab, table, pins=pins)[0] == "order"]
                self.same(sorted(ordered), found)
                within = [table for table in tables
                          if has(table, pins) and least_limit(classes, table, pins=pins)[0] <= limit]
                self.same(sorted(within), found)
                most = max(map(total, found))
                self.same((most_pages(slab, pins=pins)[0], least_pages(slab, pins=pins)), (most, most))
                self.same(max(map(sum, page_numbers(slab, pins=pins))), most)
                self.assertIn(most_pages(slab, pins=pins)[1], found)
