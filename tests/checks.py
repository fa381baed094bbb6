"""What the tests share: checks of answers and of raised errors."""

import unittest

# One value of each kind that a wrong argument may consist of.
ODD_VALUES = (
    None, True, False, 0, 1, -1, 10, 10 ** 30, "", "a", "abc", "at", "after", "queue", "stack",
    (), (None,), ("at",), ("at", 0), ("queue", 1), (1, 2, 3), ((("a",),),),
    [], [None], ["a"], ["at", 0], ["queue", 1], [1, 2, 3], [[["a"]]], ([], ()), [(), []],
)


class Checks(unittest.TestCase):
    """A test case with checks that tell 1 from True and a list from a tuple."""

    def check_same(self, found, expected):
        self.assertEqual(found, expected)
        self.assertEqual(repr(found), repr(expected))

    def check_fault(self, error, field, value, function, *arguments, **more):
        """The call raises exactly this error, whose field keeps the value."""
        before = repr(arguments) + repr(more)
        with self.assertRaises(error) as caught:
            function(*arguments, **more)
        self.assertIs(type(caught.exception), error)
        self.check_same(getattr(caught.exception, field), value)
        self.assertEqual(repr(arguments) + repr(more), before)


def with_item(rows, place, item):
    """The tuple with another item at this place."""
    return rows[:place] + (item,) + rows[place + 1:]
