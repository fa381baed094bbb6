"""Point 7: rules."""

import unittest
from itertools import product

from blindslots.errors import NoRule
from blindslots.rules import FIRST_COME, LAST_COME, ROUND_ROBIN, check_rule
from tests.checks import ODD_VALUES, Checks, with_item

SIX = (
    ("queue", 1), ("stack", 2), ("queue", None), ("stack", None), ("queue", 10 ** 30), ("stack", 7),
)
NO_QUANTA = (0, -1, -(10 ** 30), True, False, "", "1", (), (1,), [], [1], "None")
NO_KINDS = ("", "Queue", "QUEUE", "queues", "queue ", " queue", "stac", "heap", "boost", "at",
            None, True, 0, 1, (), ("queue",), [], ["queue"], ["stack"])
NO_LEVELS = (
    None, True, 0, 1, "", "queue", "qs", (), ("queue",), ("queue", 1, 1), ("queue", None, None),
    [], ["queue", 1], ["stack", None], (("queue", 1),), [("queue", 1)], ("queue", 1, None), (1, "queue"),
)


class RuleTest(Checks):

    def check_no_rule(self, rule, place):
        self.check_fault(NoRule, "place", place, check_rule, rule)

    def test_named_rules(self):
        self.check_same(FIRST_COME, ((("queue", None),), None))
        self.check_same(LAST_COME, ((("stack", None),), None))
        self.check_same(ROUND_ROBIN, ((("queue", 1),), None))
        for rule in (FIRST_COME, LAST_COME, ROUND_ROBIN):
            self.assertIsNone(check_rule(rule))

    def test_check_rule_stands_in_its_file(self):
        self.assertEqual(check_rule.__module__, "blindslots.rules")

    def test_one_to_six_levels(self):
        for many in range(1, 7):
            for boost in (None, 1, 2, 10 ** 30, 10 ** 31 - 1):
                self.assertIsNone(check_rule((SIX[:many], boost)))
                self.assertIsNone(check_rule((SIX[6 - many:], boost)))

    def test_each_valid_level(self):
        for kind, quantum in product(("queue", "stack"), (None, 1, 2, 9, 10, 10 ** 30, 10 ** 31 - 1)):
            self.assertIsNone(check_rule((((kind, quantum),), None)))

    def test_argument_by_name(self):
        self.assertIsNone(check_rule(rule=ROUND_ROBIN))
        self.check_fault(NoRule, "place", 0, check_rule, rule=((), None))

    def test_no_tuple_of_two(self):
        levels = (("queue", 1), ("stack", 2))
        rules = (
            None, True, False, 0, 1, 2, "", "queue", "ab", (), (levels,), (levels, None, None),
            (levels, 1, 1), [levels, None], [levels, 0], [], (None,), (("queue", 1), 1, 1),
        )
        for rule in rules:
            self.check_no_rule(rule, 0)

    def test_levels_are_no_tuple_of_one_to_six(self):
        seven = SIX + (("queue", 1),)
        for levels in ((), seven, seven + SIX, [], [("queue", 1)], list(SIX), None, True, 1, 6, "", "queue",
                       "qs"):
            for boost in (None, 3, 0, True):
                self.check_no_rule((levels, boost), 0)

    def test_seven_levels_go_before_an_invalid_level(self):
        self.check_no_rule((SIX[:3] + (None,) + SIX[3:], None), 0)

    def test_invalid_level_at_each_place(self):
        for many in range(1, 7):
            for place in range(many):
                for level in NO_LEVELS:
                    self.check_no_rule((with_item(SIX[:many], place, level), None), place)

    def test_invalid_kind_of_level(self):
        for kind in NO_KINDS:
            for quantum in (None, 1):
                self.check_no_rule((((kind, quantum),), None), 0)
                self.check_no_rule((with_item(SIX, 4, (kind, quantum)), 5), 4)

    def test_invalid_quantum(self):
        for quantum in NO_QUANTA:
            for kind in ("queue", "stack"):
                self.check_no_rule((((kind, quantum),), None), 0)
                self.check_no_rule((with_item(SIX, 5, (kind, quantum)), 5), 5)

    def test_first_of_two_invalid_levels(self):
        for first in range(6):
            for second in range(first + 1, 6):
                levels = with_item(SIX, second, ("queue", 0))
                self.check_no_rule((with_item(levels, first, ["queue", 1]), None), first)
                levels = with_item(SIX, second, None)
                self.check_no_rule((with_item(levels, first, ("heap", 1)), None), first)

    def test_only_the_boost_is_invalid(self):
        for many in range(1, 7):
            for boost in NO_QUANTA:
                self.check_no_rule((SIX[:many], boost), many)

    def test_invalid_level_goes_before_invalid_boost(self):
        for place in range(6):
            self.check_no_rule((with_item(SIX, place, ("stack", True)), 0), place)

    def test_no_other_error_than_no_rule(self):
        for odd in ODD_VALUES:
            self.check_no_rule(odd, 0)
            self.check_no_rule((odd, None), 0)
        for odd in [odd for odd in ODD_VALUES if odd != ("queue", 1)]:
            self.check_no_rule(((odd,), None), 0)
            self.check_no_rule(((("queue", 1), odd), None), 1)
        for odd in [odd for odd in ODD_VALUES if odd not in ("queue", "stack")]:
            self.check_no_rule(((("queue", 1), (odd, 1)), 1), 1)
        numbers = (1, 10, 10 ** 30)
        for odd in [odd for odd in ODD_VALUES if odd is True or (odd is not None and odd not in numbers)]:
            self.check_no_rule(((("queue", 1), ("stack", odd)), 1), 1)
            self.check_no_rule(((("queue", 1), ("stack", 1)), odd), 2)

    def test_equal_calls_give_equal_results(self):
        rule = [("queue", 1)], None
        for _ in range(3):
            self.check_no_rule(rule, 0)
            self.assertIsNone(check_rule((SIX, 4)))
        self.check_same(rule, ([("queue", 1)], None))


if __name__ == "__main__":
    unittest.main()
