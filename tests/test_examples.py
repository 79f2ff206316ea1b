"""The blocks of the document's section Examples, for the stages built so far."""

from slabpins import errors
from tests.support import Case

BLOCKS = """
>>> from slabpins.slabs import Slab
>>> Slab([(1, 4), (0, 2)], 7)
raises NoSlab(1)

>>> from slabpins.slabs import Slab
>>> from slabpins.tables import steps
>>> steps(Slab([(1, 4), (2, 2)], 7), ((4,), (1,)))
[('free', 0, 4), ('free', 1, 1), ('put', 0, 0)]

>>> from slabpins.slabs import Slab
>>> from slabpins.tables import check_table
>>> check_table(Slab([(1, 4), (2, 2)], 7), ((4, 1), ()))
raises NoTable(0)

>>> from slabpins.slabs import Slab
>>> from slabpins.tables import live
>>> live(Slab([(1, 4), (2, 2)], 7), ((1, 2), (1,)))
5

>>> from slabpins.slabs import Slab
>>> from slabpins.tables import played
>>> played(Slab([(1, 4), (2, 2)], 7), ((), ()), [("put", 1, 0), ("put", 1, 1), ("put", 1, 0), ("free", 1, 2)])
((), (1, 1))
"""


class Examples(Case):
    def test_blocks(self):
        blocks = BLOCKS.strip().split("\n\n")
        self.assertEqual(len(blocks), 5)
        for block in blocks:
            with self.subTest(block=block):
                self.check(block.splitlines())

    def check(self, lines):
        *before, call, expected = [line.removeprefix(">>> ") for line in lines]
        names = {}
        exec("\n".join(before), names)
        if expected.startswith("raises "):
            error = eval(expected.removeprefix("raises "), vars(errors))
            self.raises(error, eval, call, names)
        else:
            self.assertEqual(repr(eval(call, names)), expected)
