"""The tables that arise: an order of the size classes, or classes that show that there is none."""

from slabpins.errors import NoCertificate
from slabpins.pins import class_costs, further_bytes, further_pages, peak_bytes, pins_of
from slabpins.slabs import is_between


def order_of(slab, table, *, pins=None):
    """Return an order in which the classes can take their further pages, or classes that are stuck."""
    pinned = pins_of(slab, table, pins)
    costs = class_costs(slab, pinned)
    further = further_pages(table, pinned)
    numbers = sorted_numbers(costs, further)
    index = first_above(slab.limit(), costs, further, numbers)
    if index is None:
        return ("order", tuple(numbers))
    # The last one of these classes has the best chance to be the last one, and it is above the limit.
    return ("stuck", tuple(sorted(numbers[:index + 1])))


def check_order(slab, table, answer, *, pins=None):
    """Raise NoCertificate unless the answer is a correct one of order_of."""
    pinned = pins_of(slab, table, pins)
    costs = class_costs(slab, pinned)
    further = further_pages(table, pinned)
    if not is_answer(answer):
        raise NoCertificate(-1)
    word, numbers = answer
    check_numbers(further, numbers)
    if word == "order":
        check_filling(slab.limit(), costs, further, numbers)
    elif len(numbers) == 0 or last_bytes(costs, further, numbers) <= slab.limit():
        raise NoCertificate(len(numbers))


def growing(further):
    """Return the list of the classes with further pages."""
    return [number for number, many in enumerate(further) if many > 0]


def sorted_numbers(costs, further):
    """Return the classes with further pages in an order that is possible if any order is."""
    # First those that give most bytes back once their pages are taken: two neighbours
    # that stand the other way round can change places.
    return sorted(growing(further), key=lambda number: -given_back(costs, further, number))


def given_back(costs, further, number):
    """Return by how much a class lowers the live bytes after it has taken its further pages.

    The live bytes of all pins are added. They are the same for each class.
    """
    return peak_bytes(costs[number], further[number]) - further_bytes(costs, further, [number])


def first_above(limit, costs, further, numbers):
    """Return the index of the first class in this order that needs more bytes than the limit, or None."""
    held = 0
    for index, number in enumerate(numbers):
        if held + peak_bytes(costs[number], further[number]) > limit:
            return index
        held += further_bytes(costs, further, [number])
    return None


def last_bytes(costs, further, numbers):
    """Return the bytes that the last one of these classes needs at least, whichever is the last one."""
    held = further_bytes(costs, further, numbers)
    return held + min([given_back(costs, further, number) for number in numbers])


def is_answer(answer):
    """Tell whether the answer is "order" or "stuck" and a tuple."""
    if not isinstance(answer, tuple) or len(answer) != 2:
        return False
    word, numbers = answer
    return isinstance(word, str) and word in ("order", "stuck") and isinstance(numbers, tuple)


def check_numbers(further, numbers):
    """Raise NoCertificate unless these are different classes with further pages."""
    known = growing(further)
    for index, number in enumerate(numbers):
        if not is_between(number, 0, len(further) - 1) or number not in known or number in numbers[:index]:
            raise NoCertificate(index)


def check_filling(limit, costs, further, numbers):
    """Raise NoCertificate unless this order is possible, and is one of all classes with further pages."""
    index = first_above(limit, costs, further, numbers)
    if index is not None:
        raise NoCertificate(len(numbers) + index)
    if len(numbers) < len(growing(further)):
        raise NoCertificate(2 * len(numbers))
