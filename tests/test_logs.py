"""Points 5 and 12 to 14: logs, their present jobs, certificates and ways."""

import unittest
from itertools import product
from random import Random

from blindslots.errors import NoJobs, NoLog
from blindslots.logs import first_fault, presence, ways
from tests.checks import NO_COUNTS, NOT_A_TUPLE, ODD_VALUES, Checks, with_item
from tests.reference import (
    RULES, all_lengths, all_logs, history_of, log_from, present_numbers, some_jobs, stretches_from,
)

TWO = (("a", ("at", 0), 0), ("b", ("at", 5), 0))
THREE = (("a", ("at", 0), 0), ("b", ("at", 0), 0), ("c", ("at", 1), 0))
MIXED = (("a", ("at", 0), 0), ("b", ("after", 1), 3), ("c", ("at", 2), 1), ("d", ("after", 2), 0))
SETS = (
    (), TWO, THREE, MIXED,
    (("a", ("at", 0), 0), ("b", ("at", 0), 1), ("c", ("at", 0), 2)),
    (("a", ("at", 3), 0),),
    (("a", ("after", 1), 0), ("b", ("at", 1), 0)),
    (("a", ("after", 2), 0), ("b", ("at", 0), 0), ("c", ("after", 1), 0)),
    (("a", ("at", 0), 0), ("b", ("at", 0), 0), ("c", ("after", 1), 0), ("d", ("after", 1), 0)),
)
# Eight jobs at moment 0: a log of any single finishes with these units is possible.
EIGHT = tuple((name, ("at", 0), 0) for name in "abcdefgh")
LOG = ((2, 1), (3, 1), (5, 2), (9, 3), (10 ** 30, 1))
NO_PAIRS = (
    None, True, False, 0, 1, "", "ab", (), (7,), (7, 1, 1), (7, 1, None), [7, 1], [], [(7, 1)], ((7, 1),),
    ("7", 1), (None, 1), (True, 1), ((7,), 1), ([7], 1), (7, None), (7, "1"), (7, (1,)), (7, [1]),
)
FUNCTIONS = (presence, first_fault, ways)


class FormTest(Checks):

    def check_no_log(self, log, place, jobs=EIGHT):
        for function in FUNCTIONS:
            self.check_fault(NoLog, "place", place, function, jobs, log)

    def test_no_tuple(self):
        for log in NOT_A_TUPLE:
            self.check_no_log(log, 0)
            self.check_no_log(log, 0, ())

    def test_pair_of_another_form(self):
        for pair in NO_PAIRS:
            self.check_no_log((pair,), 0)
            self.check_no_log(LOG + (pair,), 5)
            for place in range(5):
                self.check_no_log(with_item(LOG, place, pair), place)

    def test_units_are_integers_from_1_on(self):
        for unit in NO_COUNTS:
            self.check_no_log(((unit, 1),), 0)
            self.check_no_log(with_item(LOG, 0, (unit, 1)), 0)
            self.check_no_log(with_item(LOG, 3, (unit, 1)), 3)

    def test_finishes_are_integers_from_1_on(self):
        for finishes in NO_COUNTS:
            for place in range(5):
                self.check_no_log(with_item(LOG, place, (LOG[place][0], finishes)), place)

    def test_units_ascend(self):
        for place in range(1, 5):
            for unit in (LOG[place - 1][0], LOG[place - 1][0] - 1, 1):
                self.check_no_log(with_item(LOG, place, (unit, 1)), place)
        self.check_no_log(((1, 1), (1, 1)), 1)
        self.check_no_log(((10 ** 30, 1), (10 ** 30, 1)), 1)
        self.check_no_log(((10 ** 30, 1), (10 ** 30 - 1, 1)), 1)

    def test_first_of_two_faults(self):
        for first, second in product(range(5), range(5)):
            if first < second:
                for wrong, other in product((None, (0, 1), [2, 1]), ((1, 1), (True, 1), (11, 0))):
                    self.check_no_log(with_item(with_item(LOG, second, other), first, wrong), first)

    def test_form_goes_before_the_jobs_that_are_there(self):
        log = ((1, 9), (2, 9), (2, 1))
        self.check_no_log(log, 2)
        self.check_no_log(log, 2, ())

    def test_no_other_error_than_no_log(self):
        for odd in ODD_VALUES:
            if odd != ():
                self.check_no_log(odd, 0)
            self.check_no_log(((1, 1), odd), 1)
            # 10 and 10 ** 30 are right as a unit behind the first one and as finishes, 1 as finishes.
            if odd is True or odd not in (10, 10 ** 30):
                self.check_no_log(((1, 1), (odd, 1)), 1)
                if odd is True or odd != 1:
                    self.check_no_log(((1, 1), (2, odd)), 1)

    def test_jobs_go_before_the_log(self):
        wrong = (EIGHT[0], EIGHT[0])
        for function in FUNCTIONS:
            self.check_order(function, {"jobs": EIGHT, "log": ((1, 1),)}, (
                ("jobs", wrong, NoJobs), ("log", ((1, 1), (1, 1)), NoLog)))
            for log in ((), LOG, None, ((0, 0),)):
                self.check_fault(NoJobs, "place", 0, function, None, log)
                self.check_fault(NoJobs, "place", 0, function, (("a", ("after", 1), 0),), log)

    def test_arguments_by_name(self):
        self.check_same(presence(jobs=TWO, log=((1, 1),)), ((1, 1, 1),))
        self.check_same(first_fault(log=((1, 1),), jobs=TWO, processors=2), ("unfinished", 1))
        self.check_same(ways(processors=2, log=((1, 1), (6, 1)), jobs=TWO), 1)


class PresenceTest(Checks):

    def test_empty_log(self):
        for jobs in SETS:
            self.check_same(presence(jobs, ()), ())

    def test_by_hand(self):
        self.check_same(presence(TWO, ((2, 1), (7, 1))), ((1, 2, 1), (3, 5, 0), (6, 7, 1)))
        # b arrives at moment 5, in time for unit 6 only.
        self.check_same(presence(TWO, ((6, 1),)), ((1, 5, 1), (6, 6, 2)))
        self.check_same(presence(TWO, ((5, 1),)), ((1, 5, 1),))
        # In unit 2 one job arrives for one that has finished.
        self.check_same(presence(THREE, ((1, 1), (3, 1))), ((1, 3, 2),))
        self.check_same(presence(THREE, ((1, 2), (2, 1))), ((1, 1, 2), (2, 2, 1)))
        self.check_same(presence(THREE, ((4, 3),)), ((1, 1, 2), (2, 4, 3)))

    def test_jobs_after_finishes(self):
        # b comes for a at once; the finish of b brings d, beside c.
        self.check_same(presence(MIXED, ((1, 1), (2, 1), (3, 2))), ((1, 2, 1), (3, 3, 2)))
        self.check_same(presence(MIXED, ((4, 2), (6, 1), (7, 1))), ((1, 2, 1), (3, 6, 2), (7, 7, 1)))
        # Two finishes in one unit count together.
        jobs = tuple((name, ("at", 0), 0) for name in "ab") + tuple((n, ("after", 2), 0) for n in "cde")
        self.check_same(presence(jobs, ((3, 2), (5, 3))), ((1, 3, 2), (4, 5, 3)))
        self.check_same(presence(jobs, ((3, 1), (5, 1), (6, 1))), ((1, 3, 2), (4, 5, 1), (6, 6, 3)))

    def test_jobs_that_no_unit_of_the_log_sees(self):
        jobs = (("a", ("at", 0), 0), ("b", ("at", 3), 0), ("c", ("after", 1), 0))
        self.check_same(presence(jobs, ((3, 1),)), ((1, 3, 1),))
        self.check_same(presence(jobs, ((4, 1),)), ((1, 3, 1), (4, 4, 2)))

    def test_long_stretches(self):
        far = 10 ** 30
        jobs = (("a", ("at", 0), 0), ("b", ("at", far), 0), ("c", ("at", far + 7), 0))
        self.check_same(presence(jobs, ((1, 1), (far + 1, 1), (10 ** 31 - 1, 1))), (
            (1, 1, 1), (2, far, 0), (far + 1, far + 1, 1), (far + 2, far + 7, 0), (far + 8, 10 ** 31 - 1, 1)))
        self.check_same(presence(jobs, ((10 ** 31 - 1, 3),)), (
            (1, far, 1), (far + 1, far + 7, 2), (far + 8, 10 ** 31 - 1, 3)))

    def test_more_finishes_than_present_jobs(self):
        for log, place in (
            (((1, 2),), 0), (((5, 2),), 0), (((6, 3),), 0), (((1, 1), (5, 1)), 1), (((6, 2), (7, 1)), 1),
            (((1, 1), (6, 1), (7, 1), (8, 1)), 2), (((1, 10 ** 30),), 0), (((1, 1), (2, 5), (3, 5)), 1),
        ):
            self.check_fault(NoLog, "place", place, presence, TWO, log)
        self.check_fault(NoLog, "place", 0, presence, (), ((1, 1),))
        self.check_fault(NoLog, "place", 0, presence, MIXED, ((1, 2), (2, 1)))
        self.check_fault(NoLog, "place", 1, presence, MIXED, ((1, 1), (2, 2)))

    def test_processors_do_not_matter(self):
        self.check_same(presence(EIGHT, ((2, 8),)), ((1, 2, 8),))

    def test_against_units_one_by_one(self):
        random = Random(7)
        wrong = 0
        for _ in range(3000):
            jobs = some_jobs(random)
            units = sorted(random.sample(range(1, 16), random.randint(0, 5)))
            log = tuple((unit, random.choice((1, 1, 1, 2, 3))) for unit in units)
            numbers = present_numbers(jobs, log)
            faults = [k for k, (unit, finishes) in enumerate(log) if finishes > numbers[unit - 1]]
            if faults:
                wrong += 1
                self.check_fault(NoLog, "place", faults[0], presence, jobs, log)
            else:
                self.check_same(presence(jobs, log), stretches_from(numbers[:-1]))
        self.assertTrue(500 < wrong < 2500)


class FirstFaultTest(Checks):

    def test_example(self):
        self.check_same(first_fault(TWO, ((2, 1), (5, 1))), ("crowded", 5, 0))

    def test_possible_logs(self):
        for jobs, log, processors in (
            ((), (), 1), (TWO, ((2, 1), (6, 1)), 1), (TWO, ((6, 1), (7, 1)), 1), (TWO, ((6, 2),), 2),
            (THREE, ((1, 1), (2, 1), (3, 1)), 1), (THREE, ((1, 2), (2, 1)), 2), (THREE, ((2, 3),), 3),
            (MIXED, ((1, 1), (2, 1), (3, 2)), 2), (EIGHT, ((1, 8),), 8), (EIGHT, ((10 ** 30, 8),), 8),
        ):
            self.assertIsNone(first_fault(jobs, log, processors=processors))

    def test_crowded(self):
        for jobs, log, processors, fault in (
            (TWO, ((1, 2),), 1, ("crowded", 1, 1)), (TWO, ((1, 2),), 8, ("crowded", 1, 1)),
            (TWO, ((6, 2),), 1, ("crowded", 6, 1)), (TWO, ((6, 3),), 8, ("crowded", 6, 2)),
            (THREE, ((1, 3),), 2, ("crowded", 1, 2)), (THREE, ((2, 3),), 2, ("crowded", 2, 2)),
            (MIXED, ((1, 1), (2, 2)), 2, ("crowded", 2, 1)), ((), ((1, 1),), 8, ("crowded", 1, 0)),
            (EIGHT, ((3, 9),), 8, ("crowded", 3, 8)), (EIGHT, ((3, 10 ** 30),), 3, ("crowded", 3, 3)),
            # All jobs have finished before the last pair.
            (TWO, ((1, 1), (6, 1), (7, 1)), 2, ("crowded", 7, 0)),
        ):
            self.check_same(first_fault(jobs, log, processors=processors), fault)

    def test_first_of_two_crowded_units(self):
        self.check_same(first_fault(EIGHT, ((1, 1), (2, 2), (3, 3))), ("crowded", 2, 1))

    def test_unfinished(self):
        for jobs, log, fault in (
            (TWO, (), ("unfinished", 2)), (TWO, ((1, 1),), ("unfinished", 1)), (TWO, ((9, 1),), ("unfinished", 1)),
            (MIXED, (), ("unfinished", 4)), (MIXED, ((1, 1),), ("unfinished", 3)),
            (EIGHT, ((10 ** 30, 1),), ("unfinished", 7)),
            # c never arrives.
            ((("a", ("at", 0), 0), ("b", ("at", 0), 0), ("c", ("after", 2), 0)), ((1, 1),), ("unfinished", 2)),
        ):
            self.check_same(first_fault(jobs, log), fault)

    def test_crowded_goes_before_unfinished(self):
        self.check_same(first_fault(EIGHT, ((1, 2),)), ("crowded", 1, 1))

    def test_one_processor_by_default(self):
        self.check_same(first_fault(EIGHT, ((1, 2),)), first_fault(EIGHT, ((1, 2),), processors=1))
        self.check_same(first_fault(EIGHT, ((1, 2),), processors=2), ("unfinished", 6))

    def test_against_units_one_by_one(self):
        random = Random(8)
        kinds = {}
        for _ in range(6000):
            jobs = some_jobs(random, 4, 6)
            processors = random.randint(1, 4)
            units = sorted(random.sample(range(1, 9), random.randint(0, 4)))
            log = tuple((unit, random.choice((1, 1, 2, 3))) for unit in units)
            expected = None
            for k, (unit, finishes) in enumerate(log):
                running = min(present_numbers(jobs, log[:k + 1])[unit - 1], processors)
                if finishes > running:
                    expected = ("crowded", unit, running)
                    break
            left = len(jobs) - sum(finishes for _, finishes in log)
            if expected is None and left:
                expected = ("unfinished", left)
            kinds[expected and expected[0]] = kinds.get(expected and expected[0], 0) + 1
            self.check_same(first_fault(jobs, log, processors=processors), expected)
        self.assertTrue(all(kinds[kind] > 200 for kind in (None, "crowded", "unfinished")), kinds)


class WaysTest(Checks):

    def test_example(self):
        self.check_same(ways(THREE, ((2, 1), (3, 1), (4, 1)), processors=2), 4)

    def test_by_hand(self):
        for jobs, log, processors, number in (
            ((), (), 1, 1), ((), (), 8, 1), (TWO, ((1, 1), (6, 1)), 1, 1), (TWO, ((6, 1), (9, 1)), 2, 2),
            (TWO, ((6, 2),), 2, 1), (EIGHT, ((1, 4), (2, 4)), 8, 70), (EIGHT, ((1, 4), (2, 4)), 4, 1),
            (EIGHT, ((1, 3), (2, 5)), 5, 10), (EIGHT, ((1, 2), (2, 2), (3, 2), (4, 2)), 4, 6 * 6 * 6),
            (EIGHT, tuple((10 ** 30 + k, 1) for k in range(8)), 8, 40320),
        ):
            self.check_same(ways(jobs, log, processors=processors), number)

    def test_impossible_logs(self):
        for jobs, log, processors in (
            ((), ((1, 1),), 1), (TWO, (), 1), (TWO, ((1, 1),), 1), (TWO, ((1, 2),), 2), (TWO, ((6, 2),), 1),
            (EIGHT, ((1, 8),), 7), (EIGHT, ((1, 9),), 8), (EIGHT, ((1, 7),), 8), (TWO, ((2, 1), (5, 1)), 2),
        ):
            self.check_same(ways(jobs, log, processors=processors), 0)

    def test_one_processor_by_default(self):
        self.check_same(ways(EIGHT, ((1, 2), (2, 6))), 0)
        self.check_same(ways(EIGHT, tuple((2 * k, 1) for k in range(1, 9))), 1)

    def test_length_lists_of_each_log_under_each_rule(self):
        """The length lists with a log are as many as its ways: no log of the lists is forgotten."""
        last = 5
        for jobs, processors in product(SETS, (1, 2, 3)):
            logs = [log for log in all_logs(last, len(jobs)) if sum(pair[1] for pair in log) <= len(jobs) + 1]
            told = {log: ways(jobs, log, processors=processors) for log in logs}
            faults = {log: first_fault(jobs, log, processors=processors) for log in logs}
            for rule in RULES:
                found = {}
                # With a longer length than the last unit no run ends by then.
                for lengths in all_lengths(len(jobs), last):
                    log = log_from(history_of(jobs, lengths, rule, processors))
                    found[log] = found.get(log, 0) + 1
                for log in logs:
                    self.check_same(told[log], found.get(log, 0))
                    self.assertEqual(faults[log] is None, log in found)


class ResultsTest(Checks):

    def test_equal_calls_give_equal_results(self):
        for _ in range(3):
            self.check_same(presence(TWO, ((2, 1), (7, 1))), ((1, 2, 1), (3, 5, 0), (6, 7, 1)))
            self.check_same(first_fault(TWO, ((1, 1),)), ("unfinished", 1))
            self.check_same(ways(TWO, ((6, 1), (9, 1)), processors=2), 2)


if __name__ == "__main__":
    unittest.main()
