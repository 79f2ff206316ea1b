"""A second, plain account of tables, steps and pins, with a search over all possible steps."""

import itertools

from slabpins.slabs import Slab

SLABS = [
    Slab([(1, 2)], 5), Slab([(2, 3)], 9), Slab([(1, 1), (2, 2)], 5), Slab([(3, 2), (2, 2)], 8),
    Slab([(1, 3), (1, 2)], 4), Slab([(1, 2), (2, 1), (3, 2)], 6), Slab([(4, 1)], 3),
]


def after(slab, table, step):
    """The table after a step, or None if the step is not possible."""
    word, number, count = step
    size, slots = slab.classes()[number]
    kept = [page for page in table[number]]
    if word == "put" and count == 0:
        if total(table) == 60 or [page for page in kept if page != slots]:
            return None
    elif count not in kept or (word == "put" and count == slots):
        return None
    else:
        del kept[kept.index(count)]
    kept = sorted(kept + [count + {"put": 1, "free": -1}[word]])
    changed = list(table)
    changed[number] = tuple(page for page in kept if page)
    return tuple(changed) if word == "free" or held(slab, changed) <= slab.limit() else None


def total(table):
    return sum(map(len, table))


def held(slab, table):
    return sum(slab.classes()[at][0] * page for at, row in enumerate(table) for page in row)


def is_table(slab, table):
    return held(slab, table) <= slab.limit()


def rows_of(slots, most):
    for many in range(most + 1):
        yield from itertools.combinations_with_replacement(range(1, slots + 1), many)


def tables_of(slab):
    """All tables of a small slab, and some that have more bytes than the limit."""
    rows = [rows_of(slots, slab.limit() // size + 1) for size, slots in slab.classes()]
    return itertools.product(*rows)


def every_step(slab):
    for number, (_, slots) in enumerate(slab.classes()):
        for count in range(slots + 1):
            yield ("free", number, count)
            yield ("put", number, count)


def has(table, pins):
    """Whether the pages of the pins can be found in the table, the greatest in the greatest, and so on."""
    for counts, least in zip(table, pins):
        pairs = itertools.zip_longest(sorted(counts, reverse=True), sorted(least, reverse=True), fillvalue=0)
        if any(count < pin for count, pin in pairs):
            return False
    return True


def reached(slab, pins, most=60):
    """The set of the tables to which steps lead from the pins, past such as have them and at most so many pages."""
    found, waiting = {pins}, [pins]
    while waiting:
        table = waiting.pop()
        for step in every_step(slab):
            further = after(slab, table, step)
            if further and further not in found and has(further, pins) and total(further) <= most:
                found.add(further)
                waiting.append(further)
    return found


def further(table, pins):
    """The numbers of further pages, by classes that have some."""
    many = [len(counts) - len(least) for counts, least in zip(table, pins)]
    return {number: pages for number, pages in enumerate(many) if pages > 0}


def filled(slab, number, pages):
    """The bytes of so many pages of a class if all of them are full but one, which has one object."""
    size, slots = slab.classes()[number]
    return sum(size * count for count in [slots] * (pages - 1) + [1])


def needed(slab, table, pins, earlier, number):
    """The bytes that point 14 puts together for a class, with these earlier in the order."""
    others = held(slab, [() if at == number else row for at, row in enumerate(pins)])
    many = further(table, pins)
    return others + sum(slab.bytes_of(one) * many[one] for one in earlier) + filled(slab, number, len(table[number]))


def verdict(slab, table, pins, answer):
    """The index for which check_order refuses an answer of the right form, or None."""
    word, numbers = answer
    known, n, limit = further(table, pins), len(numbers), slab.limit()
    for index, number in enumerate(numbers):
        if number not in known or number in numbers[:index]:
            return index
    if word == "stuck":
        for number in numbers:
            if needed(slab, table, pins, [one for one in numbers if one != number], number) <= limit:
                return n
        return None if numbers else n
    for index, number in enumerate(numbers):
        if needed(slab, table, pins, numbers[:index], number) > limit:
            return n + index
    return None if set(numbers) == set(known) else 2 * n


def least(classes, table, pins):
    """The least limit with which a table arises, by all orders of its classes."""
    slab = Slab(classes, 10 ** 6)
    limits = []
    for order in itertools.permutations(further(table, pins)):
        needs = [needed(slab, table, pins, order[:at], number) for at, number in enumerate(order)]
        limits.append(max([held(slab, table)] + needs))
    return min(limits)


def shown(classes, table, pins, numbers):
    """The limit that classes show by point 22."""
    slab = Slab(classes, 10 ** 6)
    if not numbers:
        return held(slab, table)
    many = further(table, pins)
    several = []
    for number in numbers:
        size, slots = classes[number]
        p, q, b = len(table[number]), len(pins[number]), size * sum(pins[number])
        several.append((p - 1) * slots * size + size - b - (p - q) * size)
    return held(slab, pins) + sum(classes[number][0] * many[number] for number in numbers) + min(several)


def unlimited(classes, table, pins, answer):
    """The index for which check_limit refuses an answer of the right form, or None."""
    limit, numbers = answer
    known = further(table, pins)
    for index, number in enumerate(numbers):
        if number not in known or number in numbers[:index]:
            return index
    if limit < least(classes, table, pins):
        return len(numbers)
    return None if shown(classes, table, pins, numbers) == limit else len(numbers) + 1


def distances(slab, pins):
    """The numbers of the fewest steps to all tables to which steps lead from the pins, past such as have them."""
    found, level = {pins: 0}, [pins]
    while level:
        reached_now = []
        for table in level:
            for step in every_step(slab):
                following = after(slab, table, step)
                if following and following not in found and has(following, pins):
                    found[following] = found[table] + 1
                    reached_now.append(following)
        level = reached_now
    return found


def refuses(slab, table, pages, number):
    """Whether a request of the class is refused at a table while at most so many pages are in use."""
    size, slots = slab.classes()[number]
    full = all(count == slots for count in table[number])
    return full and total(table) == pages and held(slab, table) + size <= slab.limit()


def lacking(slab, rows, pins):
    """The index for which check_page_rows refuses rows of the right form, or None."""
    room, n = 60 - total(pins), len(rows)
    found = {}
    for index, (numbers, count, size) in enumerate(rows):
        if (numbers, count) in found:
            return index
        found[numbers, count] = size
    if not any(row[:2] == ((), 0) and row[2] <= 0 for row in rows):
        return n
    for index, (numbers, count, size) in enumerate(rows):
        for number in set(range(len(slab))) - set(numbers):
            others = held(slab, [() if at == number else row for at, row in enumerate(pins)])
            for more in range(1, room - count + 1):
                if others + size + filled(slab, number, len(pins[number]) + more) > slab.limit():
                    break
                key = tuple(sorted(numbers + (number,))), count + more
                if key not in found or found[key] > size + more * slab.bytes_of(number):
                    return n + 1 + index
    return None
