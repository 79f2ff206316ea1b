"""Searches: all tables that arise on small slabs, and the fewest steps to one of them."""

from slabpins.errors import TooMany
from slabpins.limits import most_further
from slabpins.pins import class_costs, further_pages, pin_table, pins_of
from slabpins.tables import MOST_PAGES, are_full, byte_total, changed_counts, page_total


def all_arising(slab, *, pins=None, most=1000):
    """Return the ascending list of all tables that arise from the pins."""
    return sorted(arising_tables(slab, pin_table(slab, pins), most))


def fewest_steps(slab, table, *, pins=None, most=1000):
    """Return a shortest list of possible steps from the pins to the table, or None."""
    pinned = pins_of(slab, table, pins)
    arising = {found: True for found in arising_tables(slab, pinned, most)}
    if table not in arising:
        return None
    before = steps_before(slab, arising, pinned, table)
    row = []
    while before[table] is not None:
        table, step = before[table]
        row.append(step)
    return row[::-1]


def page_numbers(slab, *, pins=None, most=1000):
    """Return the ascending list of the tuples of the numbers of pages of all tables that arise."""
    tables = arising_tables(slab, pin_table(slab, pins), most)
    return sorted({tuple([len(counts) for counts in table]) for table in tables})


def arising_tables(slab, pinned, most):
    """Return the list of all tables that arise from the pins, or raise TooMany."""
    costs = class_costs(slab, pinned)
    states = [(pinned, slab.limit() - byte_total(slab, pinned))]
    # One class after the other takes its pages and objects. Until then it has its pins alone, so each
    # table on the way is one of those that arise.
    for number in range(len(slab)):
        states = with_pages(slab, pinned, costs, states, number, most)
    return [table for table, spare in states]


def with_pages(slab, pinned, costs, states, number, most):
    """Return all that becomes of these tables and their spare bytes by further pages and objects of a class."""
    size, slots = slab.size_class(number)
    pages = {}
    rows = {}
    found = []
    for table, spare in states:
        further = further_pages(table, pinned)
        beside = tuple(further)
        if beside not in pages:
            room = MOST_PAGES - page_total(table)
            pages[beside] = most_further(slab.limit(), costs, further, number, room)
        fitting = (pages[beside], spare // size)
        if fitting not in rows:
            rows[fitting] = class_rows(pinned[number], slots, fitting[0], fitting[1], most)
        for counts, objects in rows[fitting]:
            found.append((table[:number] + (counts,) + table[number + 1:], spare - size * objects))
        if len(found) > most:
            raise TooMany(most)
    return found


def class_rows(least, slots, pages, objects, most):
    """Return all counts of a class with its pins, and the number of their further objects.

    There are up to so many further pages and further objects.
    """
    rows = []
    for further in range(min(pages, objects) + 1):
        low = (1,) * further + least
        for counts, more in raised_counts(low, slots, objects - further, most):
            rows.append((counts, further + more))
        if len(rows) > most:
            raise TooMany(most)
    return rows


def raised_counts(low, slots, objects, most):
    """Return all counts that have these low ones, and the number of objects, up to so many, that they have more."""
    rows = [((), slots, 0)]
    # From the greatest count down: what is left of the low ones then always completes a row.
    for least in reversed(low):
        rows = [
            ((count,) + greater, count, more + count - least)
            for greater, highest, more in rows
            for count in range(least, min(highest, least + objects - more) + 1)
        ]
        if len(rows) > most:
            raise TooMany(most)
    return [(counts, more) for counts, highest, more in rows]


def steps_before(slab, arising, pinned, table):
    """Return a dict with the table before and the step for all tables that are no farther off than this one."""
    before = {pinned: None}
    known = {}
    level = [pinned]
    while table not in before and len(level) > 0:
        reached = []
        for way in level:
            for number, counts in enumerate(way):
                if (number, counts) not in known:
                    known[(number, counts)] = class_steps(slab.slots_of(number), number, counts)
                for step, after in known[(number, counts)]:
                    changed = way[:number] + (after,) + way[number + 1:]
                    # This takes the place of the limit, the greatest number of pages, and the pins.
                    if changed in arising and changed not in before:
                        before[changed] = (way, step)
                        reached.append(changed)
        level = reached
    return before


def class_steps(slots, number, counts):
    """Return the steps at the pages of a class, and the counts after each of them."""
    steps = []
    for count in sorted(set(counts)):
        steps.append((("free", number, count), changed_counts(counts, "free", count)))
        if count < slots:
            steps.append((("put", number, count), changed_counts(counts, "put", count)))
    if are_full(counts, slots):
        steps.append((("put", number, 0), changed_counts(counts, "put", 0)))
    return steps
