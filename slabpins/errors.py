"""The errors of the package. Each keeps its field as it was passed."""


class SlabError(ValueError):
    """What all errors of the package derive from."""


class NoSlab(SlabError):
    """The size classes or the limit do not make a slab."""

    def __init__(self, index):
        self.index = index


class NoClass(SlabError):
    """The number is not that of a fitting size class."""

    def __init__(self, number):
        self.number = number


class NoTable(SlabError):
    """The table is not one of the slab."""

    def __init__(self, index):
        self.index = index


class NoSteps(SlabError):
    """The row is not a list of possible steps."""

    def __init__(self, index):
        self.index = index


class NoCertificate(SlabError):
    """The answer does not show what it should show."""

    def __init__(self, index):
        self.index = index


class NoPins(SlabError):
    """The pins are not a table of the slab, or the table does not have them."""

    def __init__(self, pins):
        self.pins = pins


class Stuck(SlabError):
    """The table does not arise from the pins: these classes cannot be filled."""

    def __init__(self, numbers):
        self.numbers = numbers


class NoPages(SlabError):
    """The number of pages is not one that is allowed."""

    def __init__(self, pages):
        self.pages = pages


class NoRows(SlabError):
    """The rows are not a closed list."""

    def __init__(self, index):
        self.index = index


class TooMany(SlabError):
    """There are more tables than asked for."""

    def __init__(self, most):
        self.most = most
