"""Other slabs and tables: with other classes, limits, sizes or names, and with fewer objects or pages."""

from slabpins.errors import NoClass, NoSlab
from slabpins.slabs import Slab, is_between
from slabpins.tables import check_table

MOST_FACTOR = 1000000


def with_class(slab, size, slots):
    """Return the slab with a further size class, the last one."""
    return Slab(slab.classes() + [(size, slots)], slab.limit())


def with_limit(slab, limit):
    """Return the slab with another limit."""
    return Slab(slab.classes(), limit)


def scaled(slab, factor):
    """Return the slab with all sizes and the limit multiplied by the factor."""
    if not is_between(factor, 1, MOST_FACTOR):
        raise NoSlab(-1)
    classes = [(size * factor, slots) for size, slots in slab.classes()]
    return Slab(classes, slab.limit() * factor)


def renamed(slab, order):
    """Return the slab with its classes in another order."""
    check_renaming(slab, order)
    classes = slab.classes()
    return Slab([classes[number] for number in order], slab.limit())


def renamed_table(slab, table, order):
    """Return the table with its classes in another order."""
    check_table(slab, table)
    check_renaming(slab, order)
    return tuple([table[number] for number in order])


def check_renaming(slab, order):
    """Raise NoClass unless the order is a list that contains the number of each class once."""
    last = len(slab) - 1
    if not isinstance(order, list) or not all([is_between(number, 0, last) for number in order]):
        raise NoClass(order)
    if sorted(order) != list(range(len(slab))):
        raise NoClass(order)


def merged(slab, table, one, other):
    """Return the table in which all pages of class other belong to class one."""
    check_table(slab, table)
    kept = slab.size_class(one)
    given = slab.size_class(other)
    if one == other or kept != given:
        raise NoClass(other)
    rows = list(table)
    rows[one] = tuple(sorted(table[one] + table[other]))
    rows[other] = ()
    return tuple(rows)


def thinned(slab, table):
    """Return the table with one object in each page."""
    check_table(slab, table)
    return tuple([(1,) * len(counts) for counts in table])


def without_page(slab, table, number):
    """Return the table without the page of a class that has the fewest objects."""
    check_table(slab, table)
    if not is_between(number, 0, len(slab) - 1) or len(table[number]) == 0:
        raise NoClass(number)
    # The counts ascend, so the first page has the fewest objects.
    return table[:number] + (table[number][1:],) + table[number + 1:]
