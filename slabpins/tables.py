"""Tables of pages, and the steps from one table to another."""

from slabpins.errors import NoSteps, NoTable
from slabpins.slabs import is_between

MOST_PAGES = 60


def check_table(slab, table):
    """Raise NoTable unless the table is one of the slab."""
    if not isinstance(table, tuple) or len(table) != len(slab):
        raise NoTable(-1)
    for number, counts in enumerate(table):
        if not are_counts(counts, slab.slots_of(number)):
            raise NoTable(number)
    if page_total(table) > MOST_PAGES:
        raise NoTable(len(slab))
    if byte_total(slab, table) > slab.limit():
        raise NoTable(len(slab) + 1)


def are_counts(counts, slots):
    """Tell whether these are the counts of the pages of a class, in ascending order."""
    if not isinstance(counts, tuple):
        return False
    least = 1
    for count in counts:
        if not is_between(count, least, slots):
            return False
        least = count
    return True


def page_total(rows):
    """Return the number of pages of all classes together."""
    return sum([len(counts) for counts in rows])


def byte_total(slab, rows):
    """Return the sum of the sizes of all objects."""
    return sum([slab.bytes_of(number) * sum(counts) for number, counts in enumerate(rows)])


def empty(slab):
    """Return the table without pages."""
    return ((),) * len(slab)


def live(slab, table):
    """Return the live bytes of a table."""
    check_table(slab, table)
    return byte_total(slab, table)


def pages(slab, table):
    """Return the list of the numbers of pages of the classes."""
    check_table(slab, table)
    return [len(counts) for counts in table]


def steps(slab, table):
    """Return the ascending list of all possible steps."""
    held = live(slab, table)
    return [
        (word, number, count)
        for word in ("free", "put")
        for number, counts in enumerate(table)
        for count in sorted(set((0,) + counts))
        if is_possible(slab, table, held, (word, number, count))
    ]


def played(slab, table, row):
    """Return the table after a list of steps."""
    held = live(slab, table)
    if not isinstance(row, list):
        raise NoSteps(-1)
    rows = list(table)
    for index, step in enumerate(row):
        if not is_step(slab, step) or not is_possible(slab, rows, held, step):
            raise NoSteps(index)
        word, number, count = step
        held += byte_change(slab, step)
        rows[number] = changed_counts(rows[number], word, count)
    return tuple(rows)


def is_step(slab, step):
    """Tell whether this has the form of a step, possible or not."""
    if not isinstance(step, tuple) or len(step) != 3:
        return False
    word, number, count = step
    if not isinstance(word, str) or word not in ("free", "put"):
        return False
    return is_between(number, 0, len(slab) - 1) and is_between(count, 0, slab.slots_of(number))


def is_possible(slab, rows, held, step):
    """Tell whether a step is possible where rows are the counts and held bytes are live."""
    word, number, count = step
    counts = rows[number]
    if word == "free":
        return count in counts
    if held + slab.bytes_of(number) > slab.limit():
        return False
    if count == 0:
        return are_full(counts, slab.slots_of(number)) and page_total(rows) < MOST_PAGES
    return count in counts and count < slab.slots_of(number)


def are_full(counts, slots):
    """Tell whether no page of a class has room."""
    # The counts ascend, so the first page is one with the most room.
    return len(counts) == 0 or counts[0] == slots


def byte_change(slab, step):
    """Return the number of bytes by which a step changes the live bytes."""
    word, number, count = step
    if word == "free":
        return -slab.bytes_of(number)
    return slab.bytes_of(number)


def changed_counts(counts, word, count):
    """Return the counts of a class after a possible step at a page with this count."""
    changed = list(counts)
    if count > 0:
        changed.remove(count)
    after = count + 1 if word == "put" else count - 1
    if after > 0:
        changed.append(after)
    return tuple(sorted(changed))
