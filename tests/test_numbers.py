"""Points 1, 3, 14 and 17: the numbers of the length lists of a log."""

import unittest
from itertools import product
from random import Random

from blindslots.errors import NoJobs, NoLengths, NoLog, NoNumber, NoRule
from blindslots.logs import ways
from blindslots.marks import nth_lengths, number_of
from blindslots.runs import log_of
from tests.checks import NO_COUNTS, NOT_A_TUPLE, Checks
from tests.reference import (
    FIRST_COME, LAST_COME, ROUND_ROBIN, RULES, all_lengths, cases, history_of, log_from, marks_from, some_jobs,
    some_rule,
)

FAR = 10 ** 30
TWO = (("a", ("at", 0), 0), ("b", ("at", 0), 0))
THREE = (("a", ("at", 0), 0), ("b", ("at", 0), 0), ("c", ("at", 1), 0))
MIXED = (("a", ("at", 0), 0), ("b", ("after", 1), 1), ("c", ("at", 1), 2), ("d", ("at", 0), 0))
EIGHT = tuple((name, ("at", 0), 0) for name in "abcdefgh")
TWELVE = tuple((name, ("at", 0), 0) for name in "abcdefghijkl")
LOG = ((2, 1), (3, 1), (4, 1))
WRONG = (TWO[0], TWO[0])
NO_BOOST = ((("queue", 1),), 0)
NO_NUMBERS = (-1, -FAR, True, False, None, "", "0", "1", (), (0,), [], [0], ((1,),))


class NumberTest(Checks):

    def check_numbers(self, jobs, log, rule, processors, lists):
        """These are the length lists of the log, in the order of their numbers."""
        more = {"rule": rule, "processors": processors}
        self.check_same(ways(jobs, log, processors=processors), len(lists))
        for number, lengths in enumerate(lists):
            self.check_same(nth_lengths(jobs, log, number, **more), lengths)
            self.check_same(number_of(jobs, lengths, **more), number)
        for number in (-1, len(lists)):
            self.check_fault(NoNumber, "number", number, nth_lengths, jobs, log, number, **more)

    def test_example(self):
        self.check_same(nth_lengths(THREE, LOG, 1, rule=LAST_COME, processors=2), (2, 4, 1))

    def test_by_hand(self):
        # First come: in unit 2 a and b run, in unit 3 the other one and c, in unit 4 the last one.
        self.check_numbers(THREE, LOG, FIRST_COME, 2, [(2, 3, 2), (2, 4, 1), (3, 2, 2), (4, 2, 1)])
        # Last come: in unit 2 c and b run, in unit 3 the other one and a, in unit 4 the last one.
        self.check_numbers(THREE, LOG, LAST_COME, 2, [(3, 3, 1), (2, 4, 1), (3, 2, 2), (2, 2, 3)])
        self.check_numbers((), (), ROUND_ROBIN, 1, [()])
        self.check_numbers(EIGHT[:3], ((1, 2), (2, 1)), FIRST_COME, 3, [(1, 1, 2), (1, 2, 1), (2, 1, 1)])
        self.check_numbers(EIGHT[:3], ((1, 1), (2, 2)), FIRST_COME, 3, [(1, 2, 2), (2, 1, 2), (2, 2, 1)])
        self.check_numbers(EIGHT[:3], ((1, 1), (2, 2)), LAST_COME, 3, [(2, 2, 1), (2, 1, 2), (1, 2, 2)])

    def test_tuples_of_places_are_compared_as_tuples(self):
        lists = [nth_lengths(EIGHT[:4], ((1, 2), (2, 2)), number, processors=4) for number in range(6)]
        self.check_same(lists, [(1, 1, 2, 2), (1, 2, 1, 2), (1, 2, 2, 1), (2, 1, 1, 2), (2, 1, 2, 1), (2, 2, 1, 1)])

    def test_all_lists_of_each_log_under_each_rule(self):
        last = 4
        for jobs, processors, rule in product((TWO, THREE, MIXED), (1, 2, 3), RULES):
            found = {}
            for lengths in all_lengths(len(jobs), last):
                units = history_of(jobs, lengths, rule, processors)
                places = [pair[1] for pair in marks_from(units)]
                found.setdefault(log_from(units), []).append((places, lengths))
            for log, pairs in found.items():
                # A log that ends later may have further lists, with greater lengths.
                if log[-1][0] <= last:
                    self.check_numbers(jobs, log, rule, processors, [lengths for _, lengths in sorted(pairs)])

    def test_numbers_by_chance(self):
        random = Random(22)
        for jobs, lengths, rule, processors in cases(28, 1500, 9):
            more = {"rule": rule, "processors": processors}
            log = log_of(jobs, lengths, **more)
            number = number_of(jobs, lengths, **more)
            self.check_same(nth_lengths(jobs, log, number, **more), lengths)
            others = random.randrange(ways(jobs, log, processors=processors))
            found = nth_lengths(jobs, log, others, **more)
            self.check_same(log_of(jobs, found, **more), log)
            self.check_same(number_of(jobs, found, **more), others)
            # The order of the numbers is that of the places.
            places = [[pair[1] for pair in marks_from(history_of(jobs, each, rule, processors))]
                      for each in (lengths, found)]
            self.assertEqual(number < others, places[0] < places[1])

    def test_many_lists(self):
        log = tuple((unit, 1) for unit in range(3, 15))
        for rule in RULES:
            more = {"rule": rule, "processors": 8}
            many = ways(TWELVE, log, processors=8)
            self.check_same(many, 8 ** 5 * 5040)
            for number in (0, 1, 7, 5039, 5040, many // 3, many - 1):
                lengths = nth_lengths(TWELVE, log, number, **more)
                self.check_same(number_of(TWELVE, lengths, **more), number)
            self.check_fault(NoNumber, "number", many, nth_lengths, TWELVE, log, many, **more)
        lists = {nth_lengths(EIGHT, ((1, 4), (2, 4)), number, rule=ROUND_ROBIN, processors=8) for number in range(70)}
        self.assertEqual(len(lists), 70)

    def test_one_processor(self):
        for jobs, lengths, rule, _ in cases(29, 300):
            self.check_same(number_of(jobs, lengths, rule=rule), 0)
            self.check_same(nth_lengths(jobs, log_of(jobs, lengths, rule=rule), 0, rule=rule), lengths)

    def test_large_numbers(self):
        jobs = (("a", ("at", FAR), 0), ("b", ("at", FAR), 0), ("c", ("after", 2), 0))
        log = ((FAR + 1, 1), (FAR + 2, 1), (FAR + 5, 1))
        self.check_numbers(jobs, log, ((("queue", 1),), FAR), 2, [(1, 2, 3), (2, 1, 3)])

    def test_wrong_number(self):
        for number in NO_NUMBERS + (4, 5, FAR):
            for rule in RULES[:4]:
                self.check_fault(NoNumber, "number", number, nth_lengths, THREE, LOG, number, rule=rule, processors=2)
        for number in NO_NUMBERS + (1, 2, FAR):
            self.check_fault(NoNumber, "number", number, nth_lengths, (), (), number)
            self.check_fault(NoNumber, "number", number, nth_lengths, THREE, LOG, number)

    def test_impossible_log_has_no_numbers(self):
        for log in ((), ((1, 1),), ((1, 3),), ((1, 1), (2, 1), (3, 1), (4, 1)), ((1, 2), (2, 2)), ((3, 3),)):
            for number in (0, 1, None, True, FAR):
                self.check_fault(NoNumber, "number", number, nth_lengths, THREE, log, number, processors=2)
        self.check_fault(NoNumber, "number", 0, nth_lengths, (), ((1, 1),), 0)

    def test_wrong_log(self):
        for log in NOT_A_TUPLE:
            self.check_fault(NoLog, "place", 0, nth_lengths, THREE, log, 0)
        for wrong in NO_COUNTS:
            self.check_fault(NoLog, "place", 1, nth_lengths, THREE, ((2, 1), (wrong, 1)), 0)
            self.check_fault(NoLog, "place", 2, nth_lengths, THREE, ((2, 1), (3, 1), (4, wrong)), 0)
        self.check_fault(NoLog, "place", 1, nth_lengths, THREE, ((2, 9), (2, 1)), 0)

    def test_wrong_lengths(self):
        for lengths in NOT_A_TUPLE:
            self.check_fault(NoLengths, "place", 0, number_of, THREE, lengths)
        for lengths, place in (((), 0), ((1, 2), 2), ((1, 2, 3, 4), 3), ((1, 0, 3), 1), ((1, 2, True), 2)):
            self.check_fault(NoLengths, "place", place, number_of, THREE, lengths, rule=ROUND_ROBIN)

    def test_order_of_the_checks(self):
        right = {"jobs": THREE, "log": LOG, "number": 0, "rule": ROUND_ROBIN, "processors": 2}
        faults = (("jobs", WRONG, NoJobs), ("rule", NO_BOOST, NoRule), ("log", ((2, 1), (2, 1)), NoLog))
        self.check_order(nth_lengths, right, faults)
        self.check_order(nth_lengths, {**right, "number": 3}, faults)
        for name, wrong, error in faults:
            self.check_fault(error, "place", 1, nth_lengths, **{**right, "number": -1, name: wrong})
        right = {"jobs": THREE, "lengths": (1, 1, 1), "rule": ROUND_ROBIN, "processors": 2}
        self.check_order(number_of, right, (
            ("jobs", WRONG, NoJobs), ("rule", NO_BOOST, NoRule), ("lengths", (1, 0, 1), NoLengths)))

    def test_first_come_and_one_processor_by_default(self):
        random = Random(30)
        for _ in range(100):
            jobs = some_jobs(random)
            lengths = tuple(random.randint(1, 3) for _ in jobs)
            more = {"rule": ((("queue", None),), None), "processors": 1}
            self.check_same(number_of(jobs, lengths), number_of(jobs, lengths, **more))
            log = log_of(jobs, lengths)
            self.check_same(nth_lengths(jobs, log, 0), nth_lengths(jobs, log, 0, **more))

    def test_equal_calls_give_equal_results(self):
        rule = some_rule(Random(1))
        found = [nth_lengths(THREE, LOG, 2, rule=rule, processors=2) for _ in range(3)]
        self.check_same(found, [found[0]] * 3)


if __name__ == "__main__":
    unittest.main()
