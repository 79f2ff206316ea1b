"""What several tests need."""

import inspect
import unittest

from slabpins.errors import SlabError

# None of these is an integer, a list or a tuple, and none of them is a float.
ODD_VALUES = [None, True, False, "", "1", "put", b"1", {}, {0: 1}, {0, 1}, 1j, object(), int, len]
ODD_LISTS = [[], [0], [1], [[1]], [[], {}], [None]]
ODD_TUPLES = [(), (0,), (1,), ((1,),), ((), {}), (None,)]
NO_INTEGERS = ODD_VALUES + ODD_LISTS + ODD_TUPLES


class Case(unittest.TestCase):
    """Compares kinds too: for Python, True equals 1."""

    def same(self, found, expected):
        self.assertEqual(found, expected)
        self.assertEqual(repr(found), repr(expected))

    def raises(self, expected, call, *args, **named):
        with self.assertRaises(SlabError) as caught:
            call(*args, **named)
        self.assertEqual(type(caught.exception), type(expected))
        self.same(vars(caught.exception), vars(expected))

    def defined(self, module, listed):
        for name, signature in listed.items():
            function = getattr(module, name)
            self.assertEqual(function.__module__, module.__name__)
            self.assertEqual(str(inspect.signature(function)), signature)
