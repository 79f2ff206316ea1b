"""The blocks of the document's section Examples."""

from slabpins import errors
from tests.support import Case

BLOCKS = """
>>> from slabpins.slabs import Slab
>>> Slab([(1, 4), (0, 2)], 7)
raises NoSlab(1)

>>> from slabpins.slabs import Slab
>>> from slabpins.tables import steps
>>> steps(Slab([(1, 4), (2, 2)], 7), ((4,), (1,)))
[('free', 0, 4), ('free', 1, 1), ('put', 0, 0)]

>>> from slabpins.slabs import Slab
>>> from slabpins.tables import check_table
>>> check_table(Slab([(1, 4), (2, 2)], 7), ((4, 1), ()))
raises NoTable(0)

>>> from slabpins.slabs import Slab
>>> from slabpins.tables import live
>>> live(Slab([(1, 4), (2, 2)], 7), ((1, 2), (1,)))
5

>>> from slabpins.slabs import Slab
>>> from slabpins.tables import played
>>> played(Slab([(1, 4), (2, 2)], 7), ((), ()), [("put", 1, 0), ("put", 1, 1), ("put", 1, 0), ("free", 1, 2)])
((), (1, 1))

>>> from slabpins.slabs import Slab
>>> from slabpins.arising import order_of
>>> order_of(Slab([(1, 4), (2, 2)], 6), ((1,), (1, 1)))
('order', (1, 0))

>>> from slabpins.slabs import Slab
>>> from slabpins.arising import order_of
>>> order_of(Slab([(1, 4), (2, 2)], 7), ((1, 1), (1, 1)))
('stuck', (0, 1))

>>> from slabpins.slabs import Slab
>>> from slabpins.arising import check_order
>>> check_order(Slab([(1, 4), (2, 2)], 7), ((1, 1), (1,)), ("stuck", (0,)))
raises NoCertificate(1)

>>> from slabpins.slabs import Slab
>>> from slabpins.arising import order_of
>>> order_of(Slab([(1, 4), (2, 2)], 7), ((1, 1), (1, 1)), pins=((1, 1), ()))
('stuck', (1,))

>>> from slabpins.slabs import Slab
>>> from slabpins.tables import played
>>> from slabpins.schedules import schedule
>>> slab = Slab([(1, 4)], 5)
>>> played(slab, ((),), schedule(slab, ((1, 1),)))
((1, 1),)

>>> from slabpins.limits import least_limit
>>> classes = [(1, 4), (2, 2)]
>>> [least_limit(classes, ((1, 1), (1, 1))), least_limit(classes, ((4, 4), ()))]
[(8, (0, 1)), (8, ())]

>>> from slabpins.limits import least_limit
>>> least_limit([(1, 4)], ((1, 1, 3),), pins=((3,),))
(9, (0,))

>>> from slabpins.limits import check_limit
>>> check_limit([(1, 4), (2, 2)], ((1, 1), (1, 1)), (8, (1, 0)))
None

>>> from slabpins.limits import check_limit
>>> check_limit([(1, 4), (2, 2)], ((1, 1), (1, 1)), (7, (0, 1)))
raises NoCertificate(index=2)

>>> from slabpins.limits import most_beside
>>> from slabpins.slabs import Slab
>>> slab = Slab([(1, 4), (2, 2)], 7)
>>> [most_beside(slab, ((1, 1), (1,))), most_beside(slab, ((1, 1), (1, 1)))]
[[2, 1], [1, 1]]

>>> from slabpins.changes import merged
>>> from slabpins.slabs import Slab
>>> merged(Slab([(1, 10), (1, 10)], 11), ((1, 1), (1,)), 0, 1)
((1, 1, 1), ())

>>> from slabpins.changes import renamed_table
>>> from slabpins.slabs import Slab
>>> renamed_table(Slab([(1, 4), (2, 2)], 7), ((1, 3), ()), [1, 0])
((), (1, 3))

>>> from slabpins.changes import scaled
>>> from slabpins.slabs import Slab
>>> scaled(Slab([(500, 4)], 7), 3)
raises NoSlab(index=0)

>>> from slabpins.changes import thinned, without_page
>>> from slabpins.slabs import Slab
>>> slab = Slab([(1, 4), (2, 2)], 7)
>>> [thinned(slab, ((1, 3), (1,))), without_page(slab, ((1, 3), (1,)), 0)]
[((1, 1), (1,)), ((3,), (1,))]

>>> from slabpins.slabs import Slab
>>> from slabpins.greatest import most_pages
>>> most_pages(Slab([(1, 4), (2, 2)], 7))[0]
3

>>> from slabpins.slabs import Slab
>>> from slabpins.greatest import most_pages
>>> most_pages(Slab([(3, 2)], 2))
(0, ((),))

>>> from slabpins.slabs import Slab
>>> from slabpins.greatest import refused_at
>>> refused_at(Slab([(1, 2)], 3), 1, 0)
((2,),)

>>> from slabpins.slabs import Slab
>>> from slabpins.greatest import refused_at
>>> refused_at(Slab([(1, 4), (2, 2)], 7), 3, 1)
None

>>> from slabpins.slabs import Slab
>>> from slabpins.greatest import refused_at
>>> refused_at(Slab([(1, 1)], 5), 1, 0, pins=((1, 1),))
raises NoPages(pages=1)

>>> from slabpins.slabs import Slab
>>> from slabpins.greatest import least_pages
>>> [least_pages(Slab([(1, 1)], limit)) for limit in (59, 60, 61)]
[59, 60, None]

>>> from slabpins.slabs import Slab
>>> from slabpins.greatest import page_rows
>>> page_rows(Slab([(2, 1)], 4))
[((), 0, 0), ((0,), 1, 2), ((0,), 2, 4)]

>>> from slabpins.slabs import Slab
>>> from slabpins.greatest import check_page_rows
>>> check_page_rows(Slab([(2, 1)], 4), [((0,), 2, 4), ((), 0, 0), ((0,), 1, 2)])
2

>>> from slabpins.slabs import Slab
>>> from slabpins.greatest import check_page_rows
>>> check_page_rows(Slab([(2, 1)], 4), [((), 0, 0), ((0,), 1, 2)])
raises NoRows(index=3)

>>> from slabpins.slabs import Slab
>>> from slabpins.search import all_arising
>>> all_arising(Slab([(1, 2)], 3))
[((),), ((1,),), ((1, 1),), ((1, 2),), ((2,),)]

>>> from slabpins.slabs import Slab
>>> from slabpins.search import all_arising
>>> all_arising(Slab([(1, 2)], 3), pins=((2,),))
[((1, 2),), ((2,),)]

>>> from slabpins.slabs import Slab
>>> from slabpins.search import fewest_steps
>>> fewest_steps(Slab([(1, 4), (2, 2)], 7), ((1, 1), (1, 1)))
None

>>> from slabpins.slabs import Slab
>>> from slabpins.search import page_numbers
>>> page_numbers(Slab([(1, 9)], 9))
[(0,), (1,)]
"""


class Examples(Case):
    def test_blocks(self):
        blocks = BLOCKS.strip().split("\n\n")
        self.assertEqual(len(blocks), 32)
        for block in blocks:
            with self.subTest(block=block):
                self.check(block.splitlines())

    def check(self, lines):
        *before, call, expected = [line.removeprefix(">>> ") for line in lines]
        names = {}
        exec("\n".join(before), names)
        if expected.startswith("raises "):
            error = eval(expected.removeprefix("raises "), vars(errors))
            self.raises(error, eval, call, names)
        else:
            self.assertEqual(repr(eval(call, names)), expected)
