"""Compares steps and played with the plain account of point 9."""

from slabpins.errors import NoSteps, NoTable
from slabpins.slabs import Slab
from slabpins.tables import check_table, empty, live, played, steps
from tests.model import SLABS, after, is_table, tables_of
from tests.support import Case


class Model(Case):
    def test_all_tables_of_small_slabs(self):
        for slab in SLABS:
            for table in tables_of(slab):
                if is_table(slab, table):
                    self.assertIsNone(check_table(slab, table))
                    self.compare(slab, table)
                else:
                    self.raises(NoTable(len(slab) + 1), check_table, slab, table)

    def compare(self, slab, table):
        expected = []
        for word in ("free", "put"):
            for number in range(len(slab)):
                for count in range(slab.slots_of(number) + 2):
                    step = (word, number, count)
                    found = after(slab, table, step)
                    if found is None:
                        self.raises(NoSteps(0), played, slab, table, [step])
                    else:
                        self.same(played(slab, table, [step]), found)
                        expected.append(step)
        self.same(steps(slab, table), expected)

    def test_long_rows_of_steps(self):
        for slab in SLABS + [Slab([(1, 2), (2, 3), (5, 1)], 70)]:
            for pick in range(1, 8):
                self.walk(slab, pick)

    def walk(self, slab, pick):
        table, row = empty(slab), []
        for turn in range(60):
            found = steps(slab, table)
            if not found:
                break
            row.append(found[(turn * pick + pick) % len(found)])
            table = after(slab, table, row[-1])
            self.same(played(slab, empty(slab), row), table)
            self.assertLessEqual(live(slab, table), slab.limit())
        self.raises(NoSteps(len(row)), played, slab, empty(slab), row + [("free", 0, 0)])
