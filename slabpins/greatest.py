"""The greatest number of pages, the requests that are refused, and rows that show that there are no more.

Of the rows that follow from ((), 0, 0), only the least bytes held are kept: in a dict by the numbers
of the rows, as a list for the counts from one further page of each class on. They ascend, and no count
is left out: what can be reached with a page more can be reached with a page less, too.
"""

from slabpins.errors import NoPages, NoRows
from slabpins.pins import class_costs, pin_table
from slabpins.slabs import is_between
from slabpins.tables import MOST_PAGES, page_total


def most_pages(slab, *, pins=None):
    """Return the greatest number of pages, and a table with so many that arises from the pins."""
    pinned = pin_table(slab, pins)
    costs = spare_costs(slab, pinned)
    room = MOST_PAGES - page_total(pinned)
    lists = {(): [0]}
    for number in range(len(costs)):
        add_class(lists, costs, room, number)
        # No tuple with a later class is less than this one, and none has a greater count.
        if greatest_count(lists, tuple(range(number + 1))) == room:
            break
    most = most_further_pages(lists)
    numbers = min([numbers for numbers in lists if greatest_count(lists, numbers) == most])
    return (page_total(pinned) + most, row_table(pinned, lists, costs, numbers, most))


def refused_at(slab, pages, number, *, pins=None):
    """Return a table with so many pages at which a request of the class is refused, or None."""
    pinned = pin_table(slab, pins)
    if not is_between(pages, page_total(pinned), MOST_PAGES):
        raise NoPages(pages)
    slots = slab.slots_of(number)
    costs = spare_costs(slab, pinned)
    room = pages - page_total(pinned)
    lists = {(): [0]}
    ways = {}
    level = [()]
    while len(level) > 0:
        keys = refusing_keys(lists, costs[number], room, level)
        if len(keys) > 0:
            numbers, count = min(keys, key=lambda pair: first_way(lists, costs, ways, pair[0], pair[1]))
            table = row_table(pinned, lists, costs, numbers, count)
            full = pages - page_total(table) + len(table[number])
            return table[:number] + ((slots,) * full,) + table[number + 1:]
        level = add_level(lists, costs, room, level, number)
    return None


def least_pages(slab, *, pins=None):
    """Return the least number of pages with which no request is ever refused, or None."""
    pinned = pin_table(slab, pins)
    costs = spare_costs(slab, pinned)
    room = MOST_PAGES - page_total(pinned)
    lists = {(): [0]}
    for number in range(len(costs)):
        # A request that is refused with MOST_PAGES pages could take one page more.
        add_class(lists, costs, room + 1, number)
        if most_further_pages(lists) > room:
            return None
    return page_total(pinned) + most_further_pages(lists)


def page_rows(slab, *, pins=None):
    """Return the ascending list of the rows that follow, with the least bytes held."""
    pinned = pin_table(slab, pins)
    costs = spare_costs(slab, pinned)
    lists = {(): [0]}
    for number in range(len(costs)):
        add_class(lists, costs, MOST_PAGES - page_total(pinned), number)
    return [
        (numbers, len(numbers) + at, held) for numbers in sorted(lists) for at, held in enumerate(lists[numbers])
    ]


def check_page_rows(slab, rows, *, pins=None):
    """Return the number of pages of which a closed list of rows shows that no table has more."""
    pinned = pin_table(slab, pins)
    listed = listed_bytes(slab, rows)
    if listed.get((), {}).get(0, 1) > 0:
        raise NoRows(len(rows))
    lacking = lacking_keys(spare_costs(slab, pinned), listed, MOST_PAGES - page_total(pinned))
    if len(lacking) > 0:
        raise NoRows(len(rows) + 1 + min([index for index, row in enumerate(rows) if row[:2] in lacking]))
    return page_total(pinned) + max([row[1] for row in rows])


def listed_bytes(slab, rows):
    """Return a dict of the bytes of all rows, by their numbers, then by their count."""
    if not isinstance(rows, list):
        raise NoRows(-1)
    listed = {}
    last = len(slab) - 1
    for index, row in enumerate(rows):
        if not is_row(row, last):
            raise NoRows(index)
        numbers, count, held = row
        counts = listed.setdefault(numbers, {})
        if count in counts:
            raise NoRows(index)
        counts[count] = held
    return listed


def is_row(row, last):
    """Tell whether this has the form of a row, in a closed list or not; last is the number of the last class."""
    if not isinstance(row, tuple) or len(row) != 3:
        return False
    numbers, count, held = row
    if not isinstance(numbers, tuple) or not isinstance(held, int) or isinstance(held, bool):
        return False
    least = 0
    for number in numbers:
        # This is is_between, without a call for each of many numbers.
        if not isinstance(number, int) or isinstance(number, bool) or not least <= number <= last:
            return False
        least = number + 1
    return is_between(count, 0, MOST_PAGES)


def lacking_keys(costs, listed, room):
    """Return a dict of True for the numbers and counts of all rows that lack a follower."""
    # What is not listed counts like more bytes than any row has.
    missing = max([max(counts.values()) for counts in listed.values()]) + 1
    lacking = {}
    for numbers in listed:
        for number, cost in enumerate(costs):
            if number not in numbers:
                joined = listed.get(tuple(sorted(numbers + (number,))), {})
                column = [missing] * (room + 1)
                for count, held in joined.items():
                    if count <= room:
                        column[count] = held - cost[0] * count
                for count in lacking_counts(listed[numbers], column, cost, room):
                    lacking[(numbers, count)] = True
    return lacking


def lacking_counts(counts, column, cost, room):
    """Return the counts of the rows that lack a follower with a further class.

    The column has, for each count, the bytes of the row with this class as well, less a size for each page.
    """
    size, full, spare = cost
    return [
        count for count, held in counts.items()
        if held <= spare and count < room
        and max(column[count + 1:count + 2 + (spare - held) // full]) > held - size * count
    ]


def spare_costs(slab, pinned):
    """Return, for each class, a tuple of three numbers of bytes.

    These are the size, what a full page holds, and what further pages of other classes may hold
    when the class takes its first further page.
    """
    return [(size, full, slab.limit() - first) for size, full, first in class_costs(slab, pinned)]


def is_fitting(cost, held, further):
    """Tell whether a class can take so many further pages while others hold so many bytes."""
    return held + cost[1] * (further - 1) <= cost[2]


def greatest_count(lists, numbers):
    """Return the greatest count of the rows with these numbers, or -1 if there is none."""
    return len(numbers) + len(lists[numbers]) - 1 if numbers in lists else -1


def most_further_pages(lists):
    """Return the greatest count of all rows."""
    return max([greatest_count(lists, numbers) for numbers in lists])


def parts_of(numbers):
    """Return the list of these classes, each with the tuple of the others."""
    return [(number, numbers[:index] + numbers[index + 1:]) for index, number in enumerate(numbers)]


def add_class(lists, costs, room, number):
    """Add the rows of this class and earlier ones, if those of the earlier ones are there."""
    for numbers in list(lists):
        add_rows(lists, costs, room, numbers + (number,))


def add_level(lists, costs, room, level, number):
    """Add the rows with a class more than those with these numbers, and return the numbers of those that there are.

    The given class is left out.
    """
    added = []
    for numbers in level:
        for other in range(len(costs)):
            if other != number and (numbers == () or other > numbers[-1]):
                add_rows(lists, costs, room, numbers + (other,))
                if numbers + (other,) in lists:
                    added.append(numbers + (other,))
    return added


def add_rows(lists, costs, room, numbers):
    """Add the rows with these numbers, up to room, if there are any."""
    least = []
    for number, others in parts_of(numbers):
        if others in lists:
            lower_bytes(least, lists[others], costs[number], room - len(others))
    if len(least) > 0:
        lists[numbers] = least


def lower_bytes(least, rows, cost, room):
    """Lower the least bytes to those of the rows to which further pages of a class lead from these, up to room."""
    size, full, spare = cost
    # With each page more, the bytes of the followers of a row grow by a size, and what the limit has to leave
    # for them by a full page. So a row leads to all counts behind it up to a last one, and a later row with
    # no more bytes leads at least as far. The row with the fewest bytes is in front, until it has come to its
    # end; behind it are the later ones that have more, the fewest first.
    low = need = rows[0]
    behind = []
    added = filled = at = 0
    for held in rows[:room] + [None] * (room - len(rows)):
        if held is not None and held - added <= low:
            low, need, behind = held - added, held - filled, []
        elif held is not None:
            while behind and behind[-1][0] >= held - added:
                behind.pop()
            behind.append((held - added, held - filled))
        while need + filled > spare:
            if not behind:
                return
            low, need = behind.pop(0)
        added += size
        filled += full
        if at == len(least):
            least.append(low + added)
        elif low + added < least[at]:
            least[at] = low + added
        at += 1


def row_table(pinned, lists, costs, numbers, count):
    """Return the table with the pins and one object in each of the further pages of a row."""
    table = list(pinned)
    while len(numbers) > 0:
        number, further = last_taken(lists, costs, numbers, count)
        table[number] = (1,) * further + table[number]
        numbers = tuple([other for other in numbers if other != number])
        count -= further
    return tuple(table)


def last_taken(lists, costs, numbers, count):
    """Return the class that comes last in a row with the least bytes, and the number of its further pages."""
    held = lists[numbers][count - len(numbers)]
    # Of several rows before, the least one counts: first those without the last class, then the least count.
    for number, others in parts_of(numbers)[::-1]:
        for at, before in enumerate(lists[others][:count - len(others)]):
            further = count - len(others) - at
            if before + costs[number][0] * further == held and is_fitting(costs[number], before, further):
                return (number, further)
    return None


def refusing_keys(lists, cost, room, level):
    """Return the numbers and least counts of rows beside which a request of a class is refused.

    All other pages, up to room, belong to this class and are full.
    """
    keys = []
    for numbers in level:
        for at, held in enumerate(lists[numbers]):
            # The refused object would be the first one in a page more.
            if is_fitting(cost, held, room - len(numbers) - at + 1):
                keys.append((numbers, len(numbers) + at))
                break
    return keys


def first_way(lists, costs, ways, numbers, count):
    """Return the first way to a row: its classes in an order, each with the number of its further pages.

    Ways are compared by their first class, then by its pages, then by the next class, and so on.
    Those that are found are kept in the dict ways.
    """
    if (numbers, count) not in ways:
        found = []
        for number, others in parts_of(numbers):
            for at, held in enumerate(lists[others][:count - len(others)]):
                further = count - len(others) - at
                if is_fitting(costs[number], held, further):
                    # The ways to rows with the same numbers and greater counts are behind this one.
                    before = first_way(lists, costs, ways, others, count - further)
                    found.append(before + ((number, further),))
                    break
        ways[(numbers, count)] = min(found, default=())
    return ways[(numbers, count)]
