"""The greatest number of pages, the requests that are refused, and rows that show that there are no more."""

from slabpins.errors import NoPages, NoRows
from slabpins.pins import class_costs, peak_bytes, pin_table
from slabpins.slabs import is_between
from slabpins.tables import MOST_PAGES, page_total


def most_pages(slab, *, pins=None):
    """Return the greatest number of pages, and a table with so many that arises from the pins."""
    pinned = pin_table(slab, pins)
    least = least_rows(slab, pinned)
    most = greatest_count(least)
    key = min([(numbers, count) for numbers, count in least if count == most])
    return (page_total(pinned) + most, row_table(pinned, least, key))


def refused_at(slab, pages, number, *, pins=None):
    """Return a table with so many pages at which a request of the class is refused, or None."""
    pinned = pin_table(slab, pins)
    if not is_between(pages, page_total(pinned), MOST_PAGES):
        raise NoPages(pages)
    slots = slab.slots_of(number)
    least = least_rows(slab, pinned)
    key = refusing_key(slab, pinned, least, pages, number)
    if key is None:
        return None
    table = row_table(pinned, least, key)
    full = pages - page_total(table) + len(table[number])
    return table[:number] + ((slots,) * full,) + table[number + 1:]


def least_pages(slab, *, pins=None):
    """Return the least number of pages with which no request is ever refused, or None."""
    pinned = pin_table(slab, pins)
    least = least_rows(slab, pinned)
    pages = page_total(pinned) + greatest_count(least)
    # With one page more, a refused request would be granted: only MOST_PAGES stands against this.
    keys = [refusing_key(slab, pinned, least, pages, number) for number in range(len(slab))]
    return pages if all([key is None for key in keys]) else None


def page_rows(slab, *, pins=None):
    """Return the ascending list of the rows that follow, with the least bytes held."""
    least = least_rows(slab, pin_table(slab, pins))
    return sorted([(numbers, count, least[(numbers, count)][0]) for numbers, count in least])


def check_page_rows(slab, rows, *, pins=None):
    """Return the number of pages of which a closed list of rows shows that no table has more."""
    pinned = pin_table(slab, pins)
    listed = listed_bytes(slab, rows)
    if listed.get(((), 0), 1) > 0:
        raise NoRows(len(rows))
    peaks = peak_lists(slab, pinned)
    for index, row in enumerate(rows):
        for numbers, count, held in followers(slab, peaks, row):
            if listed.get((numbers, count), held + 1) > held:
                raise NoRows(len(rows) + 1 + index)
    return page_total(pinned) + greatest_count(listed)


def listed_bytes(slab, rows):
    """Return a dict of the bytes of all rows, by their numbers and count."""
    if not isinstance(rows, list):
        raise NoRows(-1)
    listed = {}
    for index, row in enumerate(rows):
        if not is_row(slab, row) or row[:2] in listed:
            raise NoRows(index)
        listed[row[:2]] = row[2]
    return listed


def is_row(slab, row):
    """Tell whether this has the form of a row, in a closed list or not."""
    if not isinstance(row, tuple) or len(row) != 3:
        return False
    numbers, count, held = row
    if not is_between(count, 0, MOST_PAGES) or not isinstance(held, int) or isinstance(held, bool):
        return False
    return are_numbers(slab, numbers)


def are_numbers(slab, numbers):
    """Tell whether this is the ascending tuple of some different classes."""
    if not isinstance(numbers, tuple):
        return False
    least = 0
    for number in numbers:
        if not is_between(number, least, len(slab) - 1):
            return False
        least = number + 1
    return True


def least_rows(slab, pinned):
    """Return a dict of all rows that follow: by numbers and count, the least bytes and the row before."""
    peaks = peak_lists(slab, pinned)
    least = {((), 0): (0, None)}
    level = [((), 0, 0)]
    # A follower has one class more than its row. So the rows of a level are final before any follow from them.
    for many in range(1, len(slab) + 1):
        for row in level:
            for numbers, count, held in followers(slab, peaks, row):
                least[(numbers, count)] = min((held, row), least.get((numbers, count), (held, row)))
        keys = [(numbers, count) for numbers, count in least if len(numbers) == many]
        level = [(numbers, count, least[(numbers, count)][0]) for numbers, count in keys]
    return least


def peak_lists(slab, pinned):
    """Return, for each class, the list of its peaks with one further page, with two, and so on."""
    room = MOST_PAGES - page_total(pinned)
    return [[peak_bytes(cost, further + 1) for further in range(room)] for cost in class_costs(slab, pinned)]


def followers(slab, peaks, row):
    """Return the followers of a row, each with the greatest bytes that it may have."""
    numbers, count, held = row
    rows = []
    for number, class_peaks in enumerate(peaks):
        if number in numbers:
            continue
        joined = tuple(sorted(numbers + (number,)))
        # There are as many peaks as pages for which there is room.
        for further in range(1, len(class_peaks) - count + 1):
            if held + class_peaks[further - 1] > slab.limit():
                break
            rows.append((joined, count + further, held + further * slab.bytes_of(number)))
    return rows


def greatest_count(keys):
    """Return the greatest number of further pages of rows with these numbers and counts."""
    return max([count for numbers, count in keys])


def row_table(pinned, least, key):
    """Return the table with the pins and one object in each of the further pages of a row that follows."""
    table = list(pinned)
    numbers, count = key
    while count > 0:
        before = least[(numbers, count)][1]
        for number in numbers:
            if number not in before[0]:
                table[number] = (1,) * (count - before[1]) + table[number]
        numbers, count = before[:2]
    return tuple(table)


def refusing_key(slab, pinned, least, pages, number):
    """Return the numbers and count of a row beside which a request of the class is refused, or None.

    All other pages, up to so many in all, belong to the class and are full.
    """
    room = pages - page_total(pinned)
    cost = class_costs(slab, pinned)[number]
    for numbers, count in least:
        if number not in numbers and count <= room:
            # The refused object would be the first one in a page more.
            peak = peak_bytes(cost, room - count + 1)
            if least[(numbers, count)][0] + peak <= slab.limit():
                return (numbers, count)
    return None
