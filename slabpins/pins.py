"""Pins: a table whose objects stay, and the further pages of the tables that have them."""

from slabpins.errors import NoPins, NoTable
from slabpins.tables import byte_total, check_table, empty


def pin_table(slab, pins):
    """Return the pins as a table: None stands for the empty one."""
    if pins is None:
        return empty(slab)
    try:
        check_table(slab, pins)
    except NoTable:
        raise NoPins(pins) from None
    return pins


def pins_of(slab, table, pins):
    """Return the pins of a table, as a table."""
    check_table(slab, table)
    pinned = pin_table(slab, pins)
    if not has_pins(table, pinned):
        raise NoPins(pins)
    return pinned


def has_pins(table, pinned):
    """Tell whether a table has the pins in each class."""
    return all([has_counts(counts, least) for counts, least in zip(table, pinned)])


def has_counts(counts, least):
    """Tell whether the pages of a class with these counts can be those of the pins."""
    beyond = len(counts) - len(least)
    # Both ascend, so the greatest counts stand side by side from the end on.
    return beyond >= 0 and all([count >= pin for count, pin in zip(counts[beyond:], least)])


def further_pages(table, pinned):
    """Return the list of the numbers of further pages of the classes."""
    return [len(counts) - len(least) for counts, least in zip(table, pinned)]


def class_costs(slab, pinned):
    """Return, for each class, a tuple of three numbers of bytes.

    These are the size, what a full page holds, and what is live when the class takes its
    first further page: all its other pages are full then, and the pins of the other classes stay.
    """
    held = byte_total(slab, pinned)
    costs = []
    for (size, slots), counts in zip(slab.classes(), pinned):
        others = held - size * sum(counts)
        costs.append((size, size * slots, others + size * (len(counts) * slots + 1)))
    return costs


def peak_bytes(cost, further):
    """Return the live bytes when a class takes the last one of so many further pages.

    What other classes hold beyond their pins is not counted.
    """
    first = cost[2]
    # With each page more, one page more is full.
    return first + cost[1] * (further - 1)


def further_bytes(costs, further, numbers):
    """Return the bytes of some classes' further pages with one object in each of them."""
    return sum([costs[number][0] * further[number] for number in numbers])
