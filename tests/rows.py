"""A second, plain account of points 40 to 43: all followers of all rows, one by one, and all tables."""

import itertools

from tests.model import filled, further, has, held, is_table, needed, refuses, tables_of, total


def following(slab, pins, row):
    """The followers of a row with the most bytes that they may have, by classes, then by pages."""
    numbers, count, size = row
    for number in range(len(slab)):
        if number not in numbers:
            others = held(slab, [() if at == number else counts for at, counts in enumerate(pins)])
            for more in range(1, 60 - total(pins) - count + 1):
                if others + size + filled(slab, number, len(pins[number]) + more) > slab.limit():
                    break
                yield tuple(sorted(numbers + (number,))), count + more, size + more * slab.bytes_of(number)


def least_rows(slab, pins):
    """All rows that follow, in the order in which they are found: the least bytes, and the least row before."""
    found = {((), 0): (0, None)}
    level = [((), 0, 0)]
    while level:
        reached = {}
        for row in level:
            for numbers, count, size in following(slab, pins, row):
                reached.setdefault((numbers, count), []).append((size, row))
        found.update({key: min(several) for key, several in reached.items()})
        level = [key + (found[key][0],) for key in reached]
    return found


def with_row(pins, found, key):
    """The table with the further pages of a row, one object in each."""
    table = [counts for counts in pins]
    while key != ((), 0):
        before = found[key][1]
        number, = set(key[0]) - set(before[0])
        table[number] = (1,) * (key[1] - before[1]) + table[number]
        key = before[:2]
    return tuple(table)


def most(pins, found):
    greatest = max(count for numbers, count in found)
    key = min(key for key in found if key[1] == greatest)
    return total(pins) + greatest, with_row(pins, found, key)


def refused(slab, pins, found, pages, number):
    """The table for the first row beside which a request is refused, or None."""
    for (numbers, count), (size, before) in found.items():
        room = pages - total(pins) - count
        if number not in numbers and room >= 0:
            others = held(slab, [() if at == number else counts for at, counts in enumerate(pins)])
            if others + size + filled(slab, number, len(pins[number]) + room + 1) <= slab.limit():
                table = list(with_row(pins, found, (numbers, count)))
                table[number] = (slab.slots_of(number),) * (len(pins[number]) + room)
                return tuple(table)
    return None


def arising_tables(slab, pins):
    """All tables of a small slab that arise from the pins, by all orders of their classes."""
    found = []
    for table in tables_of(slab):
        if is_table(slab, table) and total(table) <= 60 and has(table, pins):
            for order in itertools.permutations(further(table, pins)):
                if all(needed(slab, table, pins, order[:at], number) <= slab.limit() for at, number in enumerate(order)):
                    found.append(table)
                    break
    return found


def refused_anywhere(slab, tables, pages, number):
    """Whether a request of the class is refused at one of these tables."""
    return any(refuses(slab, table, pages, number) for table in tables)


def least_bytes(slab, pins, tables):
    """The rows with the least bytes of the further pages of these tables, one object in each."""
    least = {}
    for table in tables:
        many = further(table, pins)
        key = tuple(sorted(many)), sum(many.values())
        size = sum(slab.bytes_of(number) * pages for number, pages in many.items())
        least[key] = min(size, least.get(key, size))
    return sorted(key + (size,) for key, size in least.items())
