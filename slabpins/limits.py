"""The least limits of live bytes, and the greatest numbers of pages of one class beside the others."""

from slabpins.arising import check_numbers, last_bytes, sorted_numbers
from slabpins.errors import NoCertificate
from slabpins.pins import class_costs, further_bytes, further_pages, peak_bytes, pins_of
from slabpins.slabs import MOST_LIMIT, Slab
from slabpins.tables import MOST_PAGES, byte_total, page_total


def least_limit(classes, table, *, pins=None):
    """Return the least limit with which the table arises, and classes that show that no smaller one is enough."""
    slab = Slab(classes, MOST_LIMIT)
    pinned = pins_of(slab, table, pins)
    costs = class_costs(slab, pinned)
    return least_shown(costs, further_pages(table, pinned), byte_total(slab, table))


def check_limit(classes, table, answer, *, pins=None):
    """Raise NoCertificate unless the answer is a correct one of least_limit."""
    slab = Slab(classes, MOST_LIMIT)
    pinned = pins_of(slab, table, pins)
    further = further_pages(table, pinned)
    if not is_limit_answer(answer):
        raise NoCertificate(-1)
    limit, numbers = answer
    check_numbers(further, numbers)
    costs = class_costs(slab, pinned)
    held = byte_total(slab, table)
    if limit < least_shown(costs, further, held)[0]:
        raise NoCertificate(len(numbers))
    shown = last_bytes(costs, further, numbers) if len(numbers) > 0 else held
    if shown < limit:
        raise NoCertificate(len(numbers) + 1)


def most_beside(slab, table, *, pins=None):
    """Return, for each class, the greatest number of pages that it can have beside those of the others, or None."""
    pinned = pins_of(slab, table, pins)
    costs = class_costs(slab, pinned)
    further = further_pages(table, pinned)
    free = MOST_PAGES - page_total(table)
    row = []
    for number, counts in enumerate(pinned):
        most = most_further(slab.limit(), costs, further, number, free + further[number])
        row.append(None if most is None else len(counts) + most)
    return row


def least_shown(costs, further, held):
    """Return the least limit for a table with so many live bytes, and classes that show it."""
    limit, shown = held, []
    numbers = sorted_numbers(costs, further)
    # What a class needs in this order is what it and those before it need, whichever of them is the last one.
    for many in range(1, len(numbers) + 1):
        needed = last_bytes(costs, further, numbers[:many])
        if needed > limit:
            limit, shown = needed, numbers[:many]
    return (limit, tuple(sorted(shown)))


def is_limit_answer(answer):
    """Tell whether the answer is a tuple of an integer and a tuple."""
    if not isinstance(answer, tuple) or len(answer) != 2:
        return False
    limit, numbers = answer
    return isinstance(limit, int) and not isinstance(limit, bool) and isinstance(numbers, tuple)


def most_further(limit, costs, further, number, room):
    """Return the greatest number of further pages, up to room, that a class can take beside those of the others.

    None stands for no such number: there is no order of the others.
    """
    size, full, first = costs[number]
    numbers = sorted_numbers(costs, further[:number] + [0] + further[number + 1:])
    spare = limit - further_bytes(costs, further, numbers)
    most = min(room, fitting_pages(spare, full, first))
    # The class may stand at any place among the others. The farther to the front it stands, the fewer
    # bytes are held by then, but the more of the others have to get by with its pages.
    for other in reversed(numbers):
        spare += further_bytes(costs, further, [other])
        left = spare - peak_bytes(costs[other], further[other])
        if left < 0:
            return None
        room = min(room, left // size)
        most = max(most, min(room, fitting_pages(spare, full, first)))
    return most


def fitting_pages(spare, full, first):
    """Return how many pages fit into so many bytes, if the first one needs others than each further one."""
    return max(0, (spare - first) // full + 1)
