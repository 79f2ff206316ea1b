"""Points 40 to 43 once more: compared with all tables of small slabs, and with all rows one by one."""

import hashlib

from slabpins.errors import NoRows
from slabpins.greatest import check_page_rows, least_pages, most_pages, page_rows, refused_at
from slabpins.slabs import Slab
from slabpins.tables import empty
from tests.model import SLABS, is_table, lacking, refuses, tables_of, total
from tests.rows import arising_tables, least_bytes, least_rows, most, refused, refused_anywhere
from tests.support import Case

SMALL = SLABS + [
    Slab([(1, 4), (2, 2)], 7), Slab([(1, 3), (2, 2)], 6), Slab([(2, 2), (3, 2)], 11), Slab([(1, 2)] * 3, 5),
    Slab([(1, 2), (1, 1), (1, 2), (2, 2)], 5), Slab([(3, 2)], 2), Slab([(1, 1), (2, 1)], 0), Slab([(1, 1)] * 4, 4),
]
SIXTY = [
    (Slab([(1, 1)], 59), [0, 1, 57, 58, 59]), (Slab([(1, 1)], 60), [0, 1, 58, 59, 60]),
    (Slab([(1, 1)], 61), [0, 1, 58, 59, 60]), (Slab([(1, 1), (30, 1)], 62), [0, 57, 59, 60]),
]

# Each with the greatest number of pages, the pages of each class in the table with so many, the least number of
# pages, the number of rows, the sum of their bytes, and two digests: of all rows, and of refused_at for each number
# of pages and each class.
GREAT = [
    ([(1000, 60)] * 6, 10 ** 6, 60, [10, 17, 17, 16, 0, 0], None, 2824, 76383000,
     "4a4066d49e7bd09f", "5c02fc4e4c33dd0f"),
    ([(1, 1)] * 6, 10 ** 6, 60, [60, 0, 0, 0, 0, 0], None, 3652, 115050,
     "46284692c87d975f", "23cd796df0e2989a"),
    ([(size, 1) for size in range(1, 7)], 10 ** 6, 60, [60, 0, 0, 0, 0, 0], None, 3652, 239331,
     "dc5c912ba3fdb38b", "23cd796df0e2989a"),
    ([(1, 1)] * 6, 24, 24, [24, 0, 0, 0, 0, 0], 24, 1384, 18660,
     "481a3e9e94c45913", "1add7991700b414a"),
    ([(600, 40), (700, 60), (800, 50), (1000, 45), (900, 55), (650, 48)], 150000, 28, [7, 4, 4, 4, 4, 5], 28, 768,
     5395200, "3cf91da315c65bb4", "784261baf4127a04"),
    ([(600, 40), (620, 41), (640, 42), (660, 43), (680, 44), (700, 45)], 149999, 35, [7, 6, 6, 6, 5, 5], 35, 992,
     7480000, "f5e9c157b24c5915", "8c529b09dd123c04"),
    ([(1000, 60), (995, 59), (990, 58), (985, 57), (980, 56), (975, 55)], 100000, 12, [2, 2, 2, 2, 2, 2], 12, 256,
     1278400, "dd51d7c54a816092", "57ac569159224b19"),
]


def digest(result):
    return hashlib.sha256(repr(result).encode()).hexdigest()[:16]


def arbitrary(seed):
    """Slabs, and pins of each, that look arbitrary, but are the same each time."""
    for case in range(60):
        several = []
        for turn in range(13):
            seed = seed * 1103515245 % 2147483647
            several.append(seed // 7)
        many = 1 + case % 6
        kinds = [[(9, 7), (4, 1), (30, 12), (3, 3)], [(5, 9), (5, 9)], [(1, 5)], [(40, 3), (1, 2)]][case % 4]
        classes = [kinds[several[at] % len(kinds)] for at in range(many)]
        if case % 3:
            classes = [(1 + several[at] % 12, 1 + several[at + 6] % 9) for at in range(many)]
        slab = Slab(classes, several[12] % 90 + 20 * (case % 5))
        pins = []
        left = slab.limit() * (case % 2) // 2
        for at, (size, slots) in enumerate(classes):
            counts = tuple(sorted([1 + several[at] % slots, 1 + several[at + 1] % slots]))[:several[at + 2] % 3]
            pins.append(counts if size * sum(counts) <= left else ())
            left -= size * sum(pins[-1])
        yield slab, tuple(pins)


class Plain(Case):
    def test_all_tables_of_small_slabs(self):
        for slab in SMALL:
            several = [pins for pins in tables_of(slab) if is_table(slab, pins)]
            for pins in several if len(several) < 50 else several[::7]:
                self.compare(slab, pins, arising_tables(slab, pins))

    def test_sixty_pages(self):
        for slab, several in SIXTY:
            for many in several:
                if many <= slab.limit():
                    pins = ((1,) * many,) + empty(slab)[1:]
                    self.compare(slab, pins, arising_tables(slab, pins))

    def compare(self, slab, pins, tables):
        greatest = max(map(total, tables))
        number, table = most_pages(slab, pins=pins)
        self.same(number, greatest)
        self.same(total(table), greatest)
        self.assertIn(table, tables)
        granted = None
        for pages in range(min(60, greatest + 2), total(pins) - 1, -1):
            found = [refused_at(slab, pages, at, pins=pins) for at in range(len(slab))]
            for at, table in enumerate(found):
                self.assertEqual(table is not None, refused_anywhere(slab, tables, pages, at))
                self.assertTrue(table is None or (table in tables and refuses(slab, table, pages, at)))
            if found == [None] * len(slab):
                granted = pages
        self.same(least_pages(slab, pins=pins), granted)
        rows = page_rows(slab, pins=pins)
        self.same(rows, least_bytes(slab, pins, tables))
        self.same(check_page_rows(slab, rows, pins=pins), greatest)


class OneByOne(Case):
    def test_all_answers(self):
        for slab, pins in arbitrary(11):
            found = least_rows(slab, pins)
            number, table = most_pages(slab, pins=pins)
            self.same((number, table), most(pins, found))
            rows = page_rows(slab, pins=pins)
            self.same(rows, sorted(key + (size,) for key, (size, before) in found.items()))
            self.same(check_page_rows(slab, rows, pins=pins), number)
            for pages in sorted({total(pins), total(pins) + 1, (total(pins) + number) // 2, number - 1, number, 60}):
                for at in range(len(slab) if pages >= total(pins) else 0):
                    self.same(refused_at(slab, pages, at, pins=pins), refused(slab, pins, found, pages, at))
            refusals = [refused(slab, pins, found, number, at) for at in range(len(slab))]
            self.same(least_pages(slab, pins=pins), number if refusals == [None] * len(slab) else None)

    def test_changed_rows(self):
        for case, (slab, pins) in enumerate(arbitrary(12)):
            rows = page_rows(slab, pins=pins)
            if len(rows) < 300:
                at = 1 + case * 5 % len(rows)
                self.compare(slab, rows[:at] + rows[at + 1:], pins)
                self.compare(slab, rows[at:] + rows[:at - 1], pins)
                for size in (-1, 1, -10 ** 6, 10 ** 6):
                    numbers, count, least = rows[at - 1]
                    self.compare(slab, rows[:at - 1] + [(numbers, count, least + size)] + rows[at:], pins)
                    self.compare(slab, rows[::-1] + [(numbers, 60 - count, size)], pins)

    def compare(self, slab, rows, pins):
        index = lacking(slab, rows, pins)
        if index is None:
            self.same(check_page_rows(slab, rows, pins=pins), total(pins) + max(row[1] for row in rows))
        else:
            self.raises(NoRows(index), check_page_rows, slab, rows, pins=pins)


class Great(Case):
    def test_slabs_with_many_rows(self):
        for classes, limit, number, pages, least, many, size, rows_digest, tables_digest in GREAT:
            slab = Slab(classes, limit)
            self.same(most_pages(slab), (number, tuple((1,) * several for several in pages)))
            self.same(least_pages(slab), least)
            rows = page_rows(slab)
            self.same((len(rows), sum(row[2] for row in rows)), (many, size))
            self.same(digest(rows), rows_digest)
            self.same(check_page_rows(slab, rows), number)
            self.same(check_page_rows(slab, rows[::-1]), number)
            tables = [[refused_at(slab, at, one) for one in range(len(slab))] for at in range(61)]
            self.same(digest(tables), tables_digest)

    def test_some_of_them_one_by_one(self):
        for classes, limit, *others in GREAT[3:]:
            slab = Slab(classes, limit)
            pins = empty(slab)
            found = least_rows(slab, pins)
            self.same(most_pages(slab), most(pins, found))
            rows = page_rows(slab)
            self.same(rows, sorted(key + (size,) for key, (size, before) in found.items()))
            for at in (1, len(rows) // 3, len(rows) - 1):
                without = rows[:at] + rows[at + 1:]
                self.raises(NoRows(lacking(slab, without, pins)), check_page_rows, slab, without)

    def test_rows_with_uneven_steps(self):
        # Here a page more sometimes takes fewer bytes than the page before it.
        for classes, limit in (
            ([(118, 1), (809, 23), (832, 2), (852, 12)], 85901),
            ([(699, 44), (606, 16), (906, 51), (877, 53), (933, 27)], 98579),
            ([(697, 44), (608, 16), (906, 51), (877, 53), (909, 29)], 98982),
            ([(698, 44), (606, 16), (906, 51), (878, 53), (912, 59)], 98740),
            ([(695, 46), (606, 16), (905, 49), (874, 55), (884, 18)], 99556),
        ):
            slab = Slab(classes, limit)
            found = least_rows(slab, empty(slab))
            rows = page_rows(slab)
            self.same(rows, sorted(key + (size,) for key, (size, before) in found.items()))
            self.same(most_pages(slab), most(empty(slab), found))
            for pages in range(most_pages(slab)[0] + 1):
                for at in range(len(slab)):
                    self.same(refused_at(slab, pages, at), refused(slab, empty(slab), found, pages, at))
            self.assertIsNone(lacking(slab, rows, empty(slab)))
            self.same(check_page_rows(slab, rows), most_pages(slab)[0])

    def test_a_row_less_of_many(self):
        slab = Slab([(1, 1)] * 6, 10 ** 6)
        rows = page_rows(slab)
        self.same(rows[1], ((0,), 1, 1))
        self.raises(NoRows(len(rows)), check_page_rows, slab, rows[:1] + rows[2:])
        at = rows.index(((0, 1, 2, 3, 4, 5), 60, 60))
        without = rows[:at] + rows[at + 1:]
        self.raises(NoRows(lacking(slab, without, empty(slab))), check_page_rows, slab, without)
