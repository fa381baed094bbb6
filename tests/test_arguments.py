"""Points 2, 3, 6, 7, 10, 12, 16 and 20: the first invalid argument of each function is the one that counts."""

import unittest
from itertools import product
from random import Random

from blindslots import counts, jobs, logs, marks, named, runs, texts
from blindslots.errors import NoJobs, NoLengths, NoLog, NoMarks, NoName, NoNamed, NoNumber, NoRule
from tests.checks import ODD_VALUES, Checks
from tests.reference import FIRST_COME, LAST_COME, ROUND_ROBIN

FAR = 10 ** 30
A, B, C = ("a", ("at", 0), 0), ("b", ("at", 0), 1), ("c", ("after", 1), 9)
# Right on two processors, under each rule.
RIGHT = {
    "jobs": (A, B, C), "rule": ROUND_ROBIN, "other": LAST_COME, "lengths": (1, 2, 1), "others": (2, 1, 1), "name": "b",
    "log": ((1, 1), (2, 2)), "marks": ((1, (0,)), (2, (0, 1))), "named": ((1, ("a",)), (2, ("c", "b"))), "number": 1,
    "rules": (FIRST_COME, ROUND_ROBIN), "last": 3, "k": 1, "unit": 2, "processors": 2,
}
WRONG_JOBS = (
    (None, 0), ([A, B, C], 0), ("abc", 0), ((A, B, A), 2), ((A, None, C), 1), ((A, B, ("c", ("after", 3), 0)), 2),
    ((C,), 0), ((A, B, ("c", ("after", True), 0)), 2), ((A, ("b", ("at", -1), 0), A), 1),
    ((A, B, ("C", ("at", 0), 0)), 2),
    ((A, B, ("c", ("at", 0), 10)), 2), ((A, B, ["c", ("at", 0), 0]), 2), ((A, B, ("c", ("at", 0), False)), 2),
    ((("c", ("after", 2), 0), B, B), 2), ((A, B, ("c", ["at", 0], 0)), 2), ((A, B, ("c", ("at",), 0)), 2),
)
WRONG_RULES = (
    (None, 0), ([(("queue", 1),), None], 0), (((), None), 0), (((("queue", 1),),), 0), (((("queue", 0),), None), 0),
    (((("queue", 1), ("heap", 1)), 0), 1), (((("queue", 1), ("stack", True)), None), 1), (((("queue", 1),), 0), 1),
    (((("queue", 1), ("stack", None)), False), 2), (((("queue", None),) * 7, None), 0), (([("queue", 1)], None), 0),
    (((("queue", 1), ["stack", 1]), None), 1), (((("queue", 1), ("stack",)), None), 1), (((("queue", "1"),), None), 0),
)
WRONG_LENGTHS = (
    (None, 0), ([1, 2, 1], 0), ((), 0), ((1, 2), 2), ((1, 2, 1, 1), 3), ((1, 0, 1), 1), ((True, 2, 1), 0),
    ((1, 2, None), 2),
    ((1, "2", 0), 1), ((1, -FAR), 1), ((1, 2, 1, 0), 3), ((1, 2, (1,)), 2), (1, 0), ("121", 0),
)
WRONG_LOGS = (
    (None, 0), ([(1, 1)], 0), (((0, 1),), 0), (((1, 0),), 0), (((1, 1), (1, 1)), 1), (((1, 1), [2, 2]), 1),
    (((1, 1), (2, True)), 1), (((1, 9), (2, 1), (2, 1)), 2), (((1, 1), (None, 2)), 1), (((1, 1), (2,)), 1), ("ab", 0),
)
WRONG_MARKS = (
    (None, 0), ([(1, (0,))], 0), ((), 0), (((1, (0,)),), 1), (((1, (2,)), None), 0), (((1, (0,)), (1, (0, 1))), 1),
    (((1, (0,)), (2, (1, 0))), 1), (((1, (0,)), (2, [0, 1])), 1), (((1, (0,)), (2, ())), 1), (((1, (False,)),), 0),
    (((1, (0,)), (2, (0, 1)), (3, (0,))), 2), (((1, (0,)), (2, (0, 2))), 1), (((1, (0,)), (2, 0)), 1),
)
WRONG_NAMED = (
    (None, 0), ([(1, ("a",))], 0), ((), 0), (((1, ("a",)),), 1), (((1, ("c",)), None), 0),
    (((1, ("a",)), (1, ("b", "c"))), 1),
    (((1, ("a",)), (2, ("b", "b"))), 1), (((1, ("a",)), (2, ["b", "c"])), 1), (((1, ("a",)), (2, ())), 1),
    (((1, ("a",)), (2, ("b", "a"))), 1), (((1, ("a",)), (2, ("b", "c")), (3, ("a",))), 2), (((1, (0,)),), 0),
    (((1, "a"),), 0),
)
NO_NUMBERS = (-1, 4, FAR, True, False, None, "0", (), [0])
NO_NAMES = ("d", "", "A", "ab", None, True, 0, ("a",), ["a"])


def places(error, rows):
    """Wrong values with the error and the field that they raise."""
    return [(value, error, "place", place) for value, place in rows]


WRONG = {
    "jobs": places(NoJobs, WRONG_JOBS),
    "rule": places(NoRule, WRONG_RULES),
    "other": places(NoRule, WRONG_RULES),
    "rules": places(NoRule, [((FIRST_COME, rule, None), place) for rule, place in WRONG_RULES]),
    "lengths": places(NoLengths, WRONG_LENGTHS),
    "others": places(NoLengths, WRONG_LENGTHS),
    "log": places(NoLog, WRONG_LOGS),
    "marks": places(NoMarks, WRONG_MARKS),
    "named": places(NoNamed, WRONG_NAMED),
    "number": [(value, NoNumber, "number", value) for value in NO_NUMBERS],
    "name": [(value, NoName, "name", value) for value in NO_NAMES],
}
# The arguments that are checked, in the order of point 3, then the others.
ORDERS = {
    jobs.check_jobs: ("jobs",),
    texts.show_jobs: ("jobs",),
    texts.show_rule: ("rule",),
    logs.presence: ("jobs", "log"),
    logs.first_fault: ("jobs", "log", None, "processors"),
    logs.ways: ("jobs", "log", None, "processors"),
    runs.run: ("jobs", "rule", "lengths", None, "processors"),
    runs.finish_units: ("jobs", "rule", "lengths", None, "processors"),
    runs.log_of: ("jobs", "rule", "lengths", None, "processors"),
    runs.units_of: ("jobs", "rule", "lengths", "name", None, "processors"),
    runs.first_split: ("jobs", "rule", "lengths", "others", None, "processors"),
    marks.marks_of: ("jobs", "rule", "lengths", None, "processors"),
    marks.lengths_of: ("jobs", "rule", "marks", None, "processors"),
    marks.nth_lengths: ("jobs", "rule", "log", "number", None, "processors"),
    marks.number_of: ("jobs", "rule", "lengths", None, "processors"),
    marks.translate: ("jobs", "rule", "other", "lengths", None, "processors"),
    marks.cycle: ("jobs", "rule", "other", "lengths", None, "processors"),
    marks.parting: ("jobs", "rule", "other", "marks", None, "processors"),
    named.names_of: ("jobs", "rule", "lengths", None, "processors"),
    named.lengths_from_names: ("jobs", "rule", "named", None, "processors"),
    named.fitting: ("jobs", "rules", None, "named", "processors"),
    counts.count_within: ("jobs", None, "last", "processors"),
    counts.count_kth: ("jobs", None, "k", "unit", "last", "processors"),
    counts.count_sums: ("jobs", None, "last", "processors"),
    counts.count_logs: ("jobs", None, "last", "processors"),
    counts.number_of_log: ("jobs", "log", None, "last", "processors"),
}


class ArgumentTest(Checks):

    def setUp(self):
        self.random = Random(90)

    def calls(self):
        """Each function with the names of its checked arguments, and right arguments for all."""
        for function, names in ORDERS.items():
            checked = names[:names.index(None)] if None in names else names
            yield function, checked, {name: RIGHT[name] for name in names if name is not None}

    def test_one_wrong_argument(self):
        for function, checked, right in self.calls():
            expected = function(**right)
            for name in checked:
                for wrong, error, field, value in WRONG[name]:
                    self.check_fault(error, field, value, function, **{**right, name: wrong})
                # Behind an error right arguments are taken as before.
                self.check_same(function(**right), expected)

    def test_first_of_several_wrong_arguments(self):
        for function, checked, right in self.calls():
            for k, name in enumerate(checked):
                for wrong, error, field, value in WRONG[name]:
                    for many in range(k, len(checked)):
                        changed = {other: self.random.choice(WRONG[other])[0] for other in checked[k:many + 1]}
                        self.check_fault(error, field, value, function, **{**right, **changed, name: wrong})

    def test_odd_values(self):
        """Values of each kind raise the error of their argument, unless they are right for it."""
        for function, checked, right in self.calls():
            for name, odd in product(checked, ODD_VALUES):
                # Some are right: no jobs, an empty log, lengths of three jobs.
                if name in ("name", "number", "rules") or odd in ((), (1, 2, 3)):
                    continue
                error = WRONG[name][0][1]
                self.check_fault(error, "place", 0, function, **{**right, name: odd})

    def test_empty_tuples(self):
        for function, checked, right in self.calls():
            for name, place in (("rule", 0), ("other", 0), ("lengths", 0), ("others", 0), ("marks", 0), ("named", 0)):
                if name in checked:
                    self.check_fault(WRONG[name][0][1], "place", place, function, **{**right, name: ()})

    def test_number_of_logs(self):
        right = {"jobs": RIGHT["jobs"], "last": 3, "number": 1, "processors": 2}
        self.check_same(counts.nth_log(**right), ((1, 1), (2, 2)))
        for wrong, error, field, value in WRONG["jobs"]:
            for number in (0, *NO_NUMBERS):
                self.check_fault(error, field, value, counts.nth_log, **{**right, "jobs": wrong, "number": number})
        for number in (-1, 7, FAR, True, False, None, "0", (), [0]):
            self.check_fault(NoNumber, "number", number, counts.nth_log, **{**right, "number": number})

    def test_presence_with_more_finishes_than_jobs(self):
        for log, place in ((((1, 3),), 0), (((1, 1), (2, 3)), 1), (((1, 1), (2, 2), (3, 1)), 2)):
            self.check_fault(NoLog, "place", place, logs.presence, RIGHT["jobs"], log)
            for wrong, error, field, value in WRONG["jobs"]:
                self.check_fault(error, field, value, logs.presence, wrong, log)


if __name__ == "__main__":
    unittest.main()
