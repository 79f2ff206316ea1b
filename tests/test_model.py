"""Compares steps and played with a second, plain account of point 9."""

import itertools

from slabpins.errors import NoSteps, NoTable
from slabpins.slabs import Slab
from slabpins.tables import check_table, empty, live, played, steps
from tests.support import Case

SLABS = [
    Slab([(1, 2)], 5), Slab([(2, 3)], 9), Slab([(1, 1), (2, 2)], 5), Slab([(3, 2), (2, 2)], 8),
    Slab([(1, 3), (1, 2)], 4), Slab([(1, 2), (2, 1), (3, 2)], 6), Slab([(4, 1)], 3),
]


def after(slab, table, step):
    """The table after a step, or None if the step is not possible."""
    word, number, count = step
    size, slots = slab.classes()[number]
    kept = [page for page in table[number]]
    if word == "put" and count == 0:
        if sum(map(len, table)) == 60 or [page for page in kept if page != slots]:
            return None
    elif count not in kept or (word == "put" and count == slots):
        return None
    else:
        del kept[kept.index(count)]
    kept = sorted(kept + [count + {"put": 1, "free": -1}[word]])
    changed = list(table)
    changed[number] = tuple(page for page in kept if page)
    held = sum(slab.classes()[at][0] * page for at, row in enumerate(changed) for page in row)
    return tuple(changed) if word == "free" or held <= slab.limit() else None


def is_table(slab, table):
    held = sum(slab.classes()[at][0] * page for at, row in enumerate(table) for page in row)
    return held <= slab.limit()


def rows_of(slots, most):
    for many in range(most + 1):
        yield from itertools.combinations_with_replacement(range(1, slots + 1), many)


def tables_of(slab):
    rows = [rows_of(slots, slab.limit() // size + 1) for size, slots in slab.classes()]
    return itertools.product(*rows)


class Model(Case):
    def test_all_tables_of_small_slabs(self):
        for slab in SLABS:
            for table in tables_of(slab):
                if is_table(slab, table):
                    self.assertIsNone(check_table(slab, table))
                    self.compare(slab, table)
                else:
                    self.raises(NoTable(len(slab) + 1), check_table, slab, table)

    def compare(self, slab, table):
        expected = []
        for word in ("free", "put"):
            for number in range(len(slab)):
                for count in range(slab.slots_of(number) + 2):
                    step = (word, number, count)
                    found = after(slab, table, step)
                    if found is None:
                        self.raises(NoSteps(0), played, slab, table, [step])
                    else:
                        self.same(played(slab, table, [step]), found)
                        expected.append(step)
        self.same(steps(slab, table), expected)

    def test_long_rows_of_steps(self):
        for slab in SLABS + [Slab([(1, 2), (2, 3), (5, 1)], 70)]:
            for pick in range(1, 8):
                self.walk(slab, pick)

    def walk(self, slab, pick):
        table, row = empty(slab), []
        for turn in range(60):
            found = steps(slab, table)
            if not found:
                break
            row.append(found[(turn * pick + pick) % len(found)])
            table = after(slab, table, row[-1])
            self.same(played(slab, empty(slab), row), table)
            self.assertLessEqual(live(slab, table), slab.limit())
        self.raises(NoSteps(len(row)), played, slab, empty(slab), row + [("free", 0, 0)])
