"""What the tests share: checks of answers and of raised errors."""

import unittest

# One value of each kind that a wrong argument may consist of.
ODD_VALUES = (
    None, True, False, 0, 1, -1, 10, 10 ** 30, "", "a", "abc", "at", "after", "queue", "stack",
    (), (None,), ("at",), ("at", 0), ("queue", 1), (1, 2, 3), ((("a",),),),
    [], [None], ["a"], ["at", 0], ["queue", 1], [1, 2, 3], [[["a"]]], ([], ()), [(), []],
)
NOT_A_TUPLE = (None, True, False, 0, 1, -1, 10 ** 30, "", "a", "abc", [], [None], [1, 2], [(1, 1)], [[1, 1]])
# No integers from 1 on.
NO_COUNTS = (0, -1, -(10 ** 30), True, False, None, "", "1", (), (1,), [], [1])


class Checks(unittest.TestCase):
    """A test case with checks that tell 1 from True and a list from a tuple."""

    def check_same(self, found, expected):
        self.assertEqual(found, expected)
        self.assertEqual(repr(found), repr(expected))

    def check_fault(self, error, field, value, function, *arguments, **more):
        """The call raises exactly this error, whose field keeps the value."""
        before = repr(arguments) + repr(more)
        with self.assertRaises(error) as caught:
            function(*arguments, **more)
        self.assertIs(type(caught.exception), error)
        self.check_same(getattr(caught.exception, field), value)
        self.assertEqual(repr(arguments) + repr(more), before)

    def check_order(self, function, right, faults):
        """The call names the first of the wrong arguments, whatever is wrong behind it.

        `right` has all arguments by name; a fault is a triple of a name, a wrong value for it,
        and the error that the call raises. The place of each fault is 1.
        """
        function(**right)
        for k, (name, wrong, error) in enumerate(faults):
            self.check_fault(error, "place", 1, function, **{**right, name: wrong})
            behind = {other: value for other, value, _ in faults[k:]}
            self.check_fault(error, "place", 1, function, **{**right, **behind})


def with_item(rows, place, item):
    """The tuple with another item at this place."""
    return rows[:place] + (item,) + rows[place + 1:]
