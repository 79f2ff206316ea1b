"""Schedules: the steps from the pins to a table that arises from them."""

from slabpins.arising import order_of
from slabpins.errors import Stuck
from slabpins.pins import further_pages, pin_table


def schedule(slab, table, *, pins=None):
    """Return a list of possible steps from the pins to the table."""
    word, numbers = order_of(slab, table, pins=pins)
    if word == "stuck":
        raise Stuck(numbers)
    pinned = pin_table(slab, pins)
    further = further_pages(table, pinned)
    row = []
    for number in numbers:
        row.extend(taking(slab, number, pinned[number], further[number]))
    for number, counts in enumerate(table):
        low = (1,) * further[number] + pinned[number]
        for least, count in zip(low, counts):
            row.extend(puts(number, least, count))
    return row


def taking(slab, number, least, further):
    """Return the steps that add further pages with one object to the pages of the pins of a class."""
    slots = slab.slots_of(number)
    row = []
    for count in least + (0,) * (further - 1):
        row.extend(puts(number, count, slots))
    row.append(("put", number, 0))
    for count in least + (1,) * (further - 1):
        row.extend(frees(number, slots, count))
    return row


def puts(number, low, high):
    """Return the steps that bring a page of a class from the count low up to the count high."""
    return [("put", number, count) for count in range(low, high)]


def frees(number, high, low):
    """Return the steps that bring a page of a class from the count high down to the count low."""
    return [("free", number, count) for count in range(high, low, -1)]
