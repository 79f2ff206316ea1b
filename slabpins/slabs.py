"""Slabs: size classes and the limit of live bytes."""

from slabpins.errors import NoClass, NoSlab

MOST_CLASSES = 6
MOST_SIZE = 1000
MOST_SLOTS = 60
MOST_LIMIT = 1000000


def is_between(value, low, high):
    """Tell whether the value is an integer from low to high."""
    # A bool is an int for Python, but not for the package.
    return isinstance(value, int) and not isinstance(value, bool) and low <= value <= high


def is_size_class(item):
    """Tell whether the item is a tuple (size, slots)."""
    if not isinstance(item, tuple) or len(item) != 2:
        return False
    return is_between(item[0], 1, MOST_SIZE) and is_between(item[1], 1, MOST_SLOTS)


class Slab:
    """A list of size classes, numbered from 0, and a limit of live bytes."""

    def __init__(self, classes, limit):
        if not isinstance(classes, list) or not is_between(len(classes), 1, MOST_CLASSES):
            raise NoSlab(-1)
        if not is_between(limit, 0, MOST_LIMIT):
            raise NoSlab(-1)
        for index, item in enumerate(classes):
            if not is_size_class(item):
                raise NoSlab(index)
        self.pairs = list(classes)
        self.bound = limit

    def __len__(self):
        return len(self.pairs)

    def __eq__(self, other):
        return isinstance(other, Slab) and self.pairs == other.pairs and self.bound == other.bound

    def classes(self):
        """Return a new list of the size classes."""
        return list(self.pairs)

    def limit(self):
        """Return the limit of live bytes."""
        return self.bound

    def bytes_of(self, number):
        """Return the size of the objects of a class."""
        return self.size_class(number)[0]

    def slots_of(self, number):
        """Return the number of objects for which a page of a class has room."""
        return self.size_class(number)[1]

    def size_class(self, number):
        """Return the size class with this number."""
        if not is_between(number, 0, len(self.pairs) - 1):
            raise NoClass(number)
        return self.pairs[number]
