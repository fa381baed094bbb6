"""Points 1 to 3, 13, 14, 21 and 22: counts of length lists and of logs, and the numbers of logs."""

import unittest
from itertools import product
from math import comb, factorial
from random import Random

from blindslots.counts import count_kth, count_logs, count_sums, count_within, nth_log, number_of_log
from blindslots.errors import NoJobs, NoLog, NoNumber
from blindslots.logs import first_fault, ways
from tests.checks import NO_COUNTS, NOT_A_TUPLE, ODD_VALUES, Checks, with_item
from tests.reference import (
    FIRST_COME, RULES, Play, all_lengths, all_logs, present_numbers, some_jobs,
)

FAR = 10 ** 30
TWO = (("a", ("at", 0), 0), ("b", ("at", 0), 0))
GAP = (("a", ("at", 0), 0), ("b", ("at", 2), 0))
THREE = (("a", ("at", 0), 0), ("b", ("at", 0), 0), ("c", ("at", 0), 0))
MIXED = (("a", ("at", 0), 0), ("b", ("after", 1), 1), ("c", ("at", 1), 2), ("d", ("at", 0), 0))
TWELVE = tuple((name, ("at", 0), 0) for name in "abcdefghijkl")
CHAIN = (("a", ("after", 2), 0), ("b", ("at", 1), 0), ("c", ("after", 1), 3))
SETS = (
    (), TWO[:1], TWO, GAP, THREE, MIXED, CHAIN,
    (("a", ("at", 3), 0),),
    (("a", ("at", 0), 0), ("b", ("at", FAR), 0)),
    (("a", ("at", 0), 0), ("b", ("after", 1), 0), ("c", ("after", 1), 0), ("d", ("at", 2), 0)),
)
WRONG = (TWO[0], TWO[0])
FUNCTIONS = (
    lambda jobs, **more: count_within(jobs, 3, **more),
    lambda jobs, **more: count_kth(jobs, 1, 2, 3, **more),
    lambda jobs, **more: count_sums(jobs, 3, **more),
    lambda jobs, **more: count_logs(jobs, 3, **more),
    lambda jobs, **more: nth_log(jobs, 3, 0, **more),
    lambda jobs, **more: number_of_log(jobs, ((1, 1), (3, 1)), 3, **more),
)


def counted_lists(jobs, last, rule, processors):
    """The finish units of each length list that counts, from all of them."""
    # A job that needs more units than there are finishes too late.
    runs = [units_by(jobs, lengths, rule, processors, last) for lengths in all_lengths(len(jobs), last)]
    return [tuple(units[job[0]] for job in jobs) for units in runs if len(units) == len(jobs)]


def units_by(jobs, lengths, rule, processors, last):
    """The finish units up to this unit, by names."""
    needed = dict(zip([job[0] for job in jobs], lengths))
    play = Play(jobs, rule, processors)
    units = {}
    for unit in range(1, last + 1):
        ran = {job["name"]: job["ran"] + 1 for job in play.row.rows}
        finishing = [name for name in play.row.running() if ran[name] == needed[name]]
        play.one_unit(finishing)
        units.update({name: unit for name in finishing})
    return units


def possible_logs(jobs, last, processors):
    """The possible logs up to the unit, in order."""
    logs = [log for log in all_logs(last, processors) if sum(pair[1] for pair in log) == len(jobs)]
    found = []
    for log in logs:
        numbers = present_numbers(jobs, log)
        if all(finishes <= min(numbers[unit - 1], processors) for unit, finishes in log):
            found.append(log)
    return sorted(found)


class CountTest(Checks):

    def test_examples(self):
        self.check_same(count_within(THREE, 3, processors=2), 13)
        self.check_same(count_sums(TWO, 4), {3: 1, 4: 1, 5: 2, 6: 1, 7: 1})
        self.check_same(nth_log(TWO, 4, 3), ((2, 1), (3, 1)))

    def test_without_jobs(self):
        for last, processors in product((0, 1, 60), (1, 8)):
            self.check_same(count_within((), last, processors=processors), 1)
            self.check_same(count_kth((), 1, 1, last, processors=processors), 0)
            self.check_same(count_sums((), last, processors=processors), {0: 1})

    def test_no_time(self):
        for jobs in SETS[1:]:
            self.check_same(count_within(jobs, 0, processors=3), 0)
            self.check_same(count_kth(jobs, 1, 1, 0, processors=3), 0)
            self.check_same(count_sums(jobs, 0, processors=3), {})
        far = (("a", ("at", 10 ** 31 - 1), 0),)
        self.check_same(count_within(far, 60), 0)
        self.check_same(count_sums(far, 60), {})
        self.check_same(count_within((("a", ("at", 60), 0),), 60), 0)
        self.check_same(count_within((("a", ("at", 59), 0),), 60), 1)

    def test_one_job(self):
        for last in range(5):
            self.check_same(count_within(TWO[:1], last), last)
            self.check_same(count_sums(TWO[:1], last), {unit: 1 for unit in range(1, last + 1)})
            for unit in range(1, 7):
                self.check_same(count_kth(TWO[:1], 1, unit, last), 1 if unit <= last else 0)

    def test_one_processor_chooses_units(self):
        # All jobs are there at once: each choice of as many units is a log of one list.
        for many, last in ((2, 4), (5, 9), (12, 60), (12, 12), (12, 11)):
            self.check_same(count_within(TWELVE[:many], last), comb(last, many))
            self.check_same(count_kth(TWELVE[:many], 1, 1, last), comb(last - 1, many - 1))
            self.check_same(count_kth(TWELVE[:many], many, last, last), comb(last - 1, many - 1))
            self.check_same(count_kth(TWELVE[:many], 2, 4, last), 3 * comb(last - 4, many - 2))

    def test_a_processor_for_each_job(self):
        self.check_same(count_within(TWELVE[:8], 60, processors=8), 60 ** 8)
        self.check_same(count_within(TWELVE[:3], 60, processors=8), 60 ** 3)
        # The first one of eight finishes finishes in unit 7 if all are behind unit 6, but not all behind 7.
        self.check_same(count_kth(TWELVE[:8], 1, 7, 60, processors=8), 54 ** 8 - 53 ** 8)
        self.check_same(count_kth(TWELVE[:8], 8, 7, 60, processors=8), 7 ** 8 - 6 ** 8)
        self.check_same(count_sums(TWO, 3, processors=2), {2: 1, 3: 2, 4: 3, 5: 2, 6: 1})

    def test_several_finishes_in_one_unit(self):
        self.check_same([count_kth(TWO, k, 1, 2, processors=2) for k in (1, 2, 3)], [3, 1, 0])
        self.check_same([count_kth(TWO, k, 2, 2, processors=2) for k in (1, 2, 3)], [1, 3, 0])

    def test_units_and_finishes_that_are_not_there(self):
        for jobs, processors in product(SETS, (1, 3)):
            for k, unit, last in ((len(jobs) + 1, 1, 9), (FAR, 9, 9), (1, 10, 9), (1, FAR, 9),
                                  (FAR, FAR, 9), (1, 1, 0)):
                self.check_same(count_kth(jobs, k, unit, last, processors=processors), 0)

    def test_against_all_length_lists_under_each_rule(self):
        for jobs, processors in product(SETS, (1, 2, 3)):
            for last, rules in ((1, RULES), (3, RULES), (5 if len(jobs) < 4 else 4, RULES[:9:2])):
                for rule in rules:
                    self.check_counts(jobs, last, processors, counted_lists(jobs, last, rule, processors))

    def check_counts(self, jobs, last, processors, lists):
        """These are the finish units of the lists that count."""
        self.check_same(count_within(jobs, last, processors=processors), len(lists))
        sums = [sum(units) for units in lists]
        expected = {total: sums.count(total) for total in sorted(set(sums))}
        self.check_same(count_sums(jobs, last, processors=processors), expected)
        for k, unit in product(range(1, len(jobs) + 2), range(1, last + 2)):
            here = [units for units in lists if k <= len(units) and sorted(units)[k - 1] == unit]
            self.check_same(count_kth(jobs, k, unit, last, processors=processors), len(here))

    def test_jobs_by_chance(self):
        random = Random(50)
        for _ in range(60):
            jobs = some_jobs(random, 4, 3)
            processors = random.choice((1, 2, 3, 8))
            rule = random.choice(RULES)
            self.check_counts(jobs, 4, processors, counted_lists(jobs, 4, rule, processors))

    def test_finishes_and_sums_at_the_limits(self):
        random = Random(51)
        for processors in range(1, 9):
            for jobs in (TWELVE, some_jobs(random, 12, 30)):
                number = count_within(jobs, 60, processors=processors)
                for k in {1, len(jobs)} if jobs else ():
                    kth = [count_kth(jobs, k, unit, 60, processors=processors) for unit in range(1, 61)]
                    self.assertEqual(sum(kth), number)
                sums = count_sums(jobs, 60, processors=processors)
                self.assertEqual(sum(sums.values()), number)
                self.assertEqual(list(sums), sorted(sums))
                self.assertNotIn(0, sums.values())
        # At least four of eight finish in unit 1, and all the others in unit 2.
        self.check_same(count_within(TWELVE, 2, processors=8), 70 + 56 + 28 + 8 + 1)

    def test_returned_dictionary_may_be_changed(self):
        for change in (lambda told: told.clear(), lambda told: told.update({3: 7}), lambda told: told.pop(5)):
            change(count_sums(TWO, 4))
            self.check_same(count_sums(TWO, 4), {3: 1, 4: 1, 5: 2, 6: 1, 7: 1})
        count_sums((), 4)[0] = 5
        self.check_same(count_sums((), 4), {0: 1})

    def test_one_processor_by_default(self):
        for jobs in SETS:
            self.check_same(count_within(jobs, 5), count_within(jobs, 5, processors=1))
            self.check_same(count_kth(jobs, 1, 2, 5), count_kth(jobs, 1, 2, 5, processors=1))
            self.check_same(count_sums(jobs, 5), count_sums(jobs, 5, processors=1))
            self.check_same(count_logs(jobs, 5), count_logs(jobs, 5, processors=1))
        self.check_same(number_of_log(TWO, ((1, 1), (2, 1)), 2), 0)
        self.check_fault(NoNumber, "number", None, number_of_log, TWO, ((1, 2),), 2)
        self.check_same(nth_log(TWO, 2, 0), ((1, 1), (2, 1)))

    def test_wrong_jobs(self):
        for function, processors in product(FUNCTIONS, (1, 8)):
            function(TWO, processors=2)
            self.check_fault(NoJobs, "place", 1, function, WRONG, processors=processors)
            self.check_fault(NoJobs, "place", 0, function, (("a", ("after", 1), 0),), processors=processors)
            self.check_fault(NoJobs, "place", 1, function, TWO[:1] + (("b", ("after", 2), 0),), processors=processors)
            for odd in ODD_VALUES:
                if odd != ():
                    self.check_fault(NoJobs, "place", 0, function, odd, processors=processors)

    def test_wrong_jobs_go_before_a_unit_behind_the_end(self):
        self.check_fault(NoJobs, "place", 1, count_kth, WRONG, 1, 9, 3)
        self.check_fault(NoJobs, "place", 1, count_within, WRONG, 0)


class LogTest(Checks):

    def check_logs(self, jobs, last, processors):
        """The logs are numbered in order, and there are no others."""
        logs = possible_logs(jobs, last, processors)
        more = {"processors": processors}
        self.check_same(count_logs(jobs, last, **more), len(logs))
        for number, log in enumerate(logs):
            self.check_same(nth_log(jobs, last, number, **more), log)
            self.check_same(number_of_log(jobs, log, last, **more), number)
        for number in (-1, len(logs), FAR):
            self.check_fault(NoNumber, "number", number, nth_log, jobs, last, number, **more)
        return logs

    def test_by_hand(self):
        self.assertEqual(self.check_logs(TWO, 3, 1), [((1, 1), (2, 1)), ((1, 1), (3, 1)), ((2, 1), (3, 1))])
        # A log with fewer finishes in a unit stands first; one that begins later stands behind.
        self.assertEqual(self.check_logs(TWO, 2, 2), [((1, 1), (2, 1)), ((1, 2),), ((2, 2),)])
        self.assertEqual(self.check_logs(THREE, 2, 3), [
            ((1, 1), (2, 2)), ((1, 2), (2, 1)), ((1, 3),), ((2, 3),)])
        self.assertEqual(self.check_logs(GAP, 4, 2), [
            ((1, 1), (3, 1)), ((1, 1), (4, 1)), ((2, 1), (3, 1)), ((2, 1), (4, 1)),
            ((3, 1), (4, 1)), ((3, 2),), ((4, 2),)])

    def test_without_jobs(self):
        for last, processors in product((0, 1, 60), (1, 8)):
            self.assertEqual(self.check_logs((), 0, processors), [()])
            self.check_same(count_logs((), last, processors=processors), 1)
            self.check_same(nth_log((), last, 0, processors=processors), ())
            self.check_same(number_of_log((), (), last, processors=processors), 0)

    def test_against_all_logs(self):
        for jobs, processors, last in product(SETS, (1, 2, 3), (0, 1, 4, 5)):
            self.check_logs(jobs, last, processors)

    def test_jobs_by_chance(self):
        random = Random(52)
        for _ in range(150):
            self.check_logs(some_jobs(random, 5, 4), random.randint(0, 6), random.choice((1, 2, 4)))

    def test_ways_sum_up_to_the_counts(self):
        random = Random(53)
        for k in range(120):
            jobs = SETS[k] if k < len(SETS) else some_jobs(random, 5, 5)
            last, processors = random.randint(3, 7), random.choice((1, 2, 3, 8))
            more = {"processors": processors}
            logs = [nth_log(jobs, last, number, **more) for number in range(count_logs(jobs, last, **more))]
            many = {log: ways(jobs, log, **more) for log in logs}
            self.assertEqual(sum(many.values()), count_within(jobs, last, **more))
            self.assertTrue(all(many.values()))
            self.assertTrue(all(first_fault(jobs, log, **more) is None for log in logs))
            sums = {}
            for log in logs:
                total = sum(unit * finishes for unit, finishes in log)
                sums[total] = sums.get(total, 0) + many[log]
            self.assertEqual(count_sums(jobs, last, **more), sums)
            for finish, unit in product(range(1, len(jobs) + 1), range(1, last + 1)):
                here = [log for log in logs if [u for u, finishes in log for _ in range(finishes)][finish - 1] == unit]
                self.assertEqual(count_kth(jobs, finish, unit, last, **more), sum(many[log] for log in here))

    def test_at_the_limits(self):
        random = Random(54)
        self.check_same(count_logs(TWELVE, 60), comb(60, 12))
        for processors in (1, 3, 8):
            for jobs in (TWELVE, some_jobs(random, 12, 30), MIXED):
                more = {"processors": processors}
                many = count_logs(jobs, 60, **more)
                before = None
                for number in sorted({0, many - 1, many // 2, many // 3, random.randrange(many)}):
                    log = nth_log(jobs, 60, number, **more)
                    self.assertIsNone(first_fault(jobs, log, **more))
                    self.check_same(number_of_log(jobs, log, 60, **more), number)
                    self.assertTrue(before is None or before < log)
                    before = log
                self.check_fault(NoNumber, "number", many, nth_log, jobs, 60, many, **more)

    def test_a_later_end_leaves_the_first_logs_in_order(self):
        for last in range(4, 9):
            places = [number_of_log(MIXED, log, last + 1, processors=2) for log in possible_logs(MIXED, last, 2)]
            self.assertEqual(places, sorted(places))

    def test_wrong_number(self):
        for number in (-1, -FAR, True, False, None, "", "0", "1", (), (0,), [], [0], ((1,),), 3, 4, FAR):
            self.check_fault(NoNumber, "number", number, nth_log, TWO, 3, number)
        for number in (-1, True, False, None, "0", (), [], 1, 2):
            self.check_fault(NoNumber, "number", number, nth_log, (), 3, number)
        for number in (0, 1, None, False):
            self.check_fault(NoNumber, "number", number, nth_log, TWO, 1, number)
            self.check_fault(NoNumber, "number", number, nth_log, TWO, 0, number, processors=2)

    def test_log_that_has_no_number(self):
        for log in ((), ((1, 1),), ((1, 2),), ((1, 1), (2, 2)), ((1, 1), (2, 1), (3, 1)), ((3, 1), (4, 1)),
                    ((1, 1), (4, 1)), ((1, 1), (FAR, 1)), ((1, FAR),)):
            self.check_fault(NoNumber, "number", None, number_of_log, TWO, log, 3)
        for log in (((1, 1),), ((4, 1),), ((1, FAR),)):
            self.check_fault(NoNumber, "number", None, number_of_log, (), log, 3)
        # b comes too late for unit 2.
        self.check_fault(NoNumber, "number", None, number_of_log, GAP, ((1, 1), (2, 1)), 5)
        self.check_same(number_of_log(GAP, ((1, 1), (3, 1)), 5), 0)

    def test_wrong_log(self):
        log = ((1, 1), (2, 1), (3, 1))
        for odd in NOT_A_TUPLE:
            self.check_fault(NoLog, "place", 0, number_of_log, THREE, odd, 3)
        for wrong, place in product(NO_COUNTS, range(3)):
            self.check_fault(NoLog, "place", place, number_of_log, THREE, with_item(log, place, (wrong, 1)), 3)
            self.check_fault(NoLog, "place", place, number_of_log, THREE, with_item(log, place, (place + 1, wrong)), 3)
        self.check_fault(NoLog, "place", 1, number_of_log, THREE, ((2, 1), (2, 1)), 3)
        self.check_fault(NoLog, "place", 1, number_of_log, THREE, ((9, 9), (2, 1)), 3)
        for odd in ODD_VALUES:
            self.check_fault(NoLog, "place", 1, number_of_log, THREE, ((1, 1), odd), 3)

    def test_order_of_the_checks(self):
        faults = (("jobs", WRONG, NoJobs), ("log", ((2, 1), (2, 1)), NoLog))
        right = {"jobs": TWO, "log": ((1, 1), (2, 1)), "last": 3, "processors": 2}
        self.check_order(number_of_log, right, faults)
        # Behind them comes what ends too late.
        for name, wrong, error in faults:
            self.check_fault(error, "place", 1, number_of_log, **{**right, "last": 1, name: wrong})
        self.check_fault(NoNumber, "number", None, number_of_log, **{**right, "last": 1})
        self.check_fault(NoJobs, "place", 1, nth_log, WRONG, 3, -1)
        self.check_fault(NoJobs, "place", 1, nth_log, WRONG, 3, None)


class SameForEachRuleTest(Checks):

    def test_counts_do_not_depend_on_the_rule(self):
        """All that is counted from runs is the same under each rule."""
        random = Random(55)
        for _ in range(40):
            jobs = some_jobs(random, 3, 3)
            processors = random.choice((1, 2, 3))
            told = [sorted(sorted(units) for units in counted_lists(jobs, 4, rule, processors)) for rule in RULES]
            self.assertEqual(told, [told[0]] * len(told))
            self.assertEqual(count_within(jobs, 4, processors=processors), len(told[0]))

    def test_permutations_of_lengths(self):
        # With a processor for each job the lists of one log are all ways to share out its units.
        log = tuple((unit, 1) for unit in range(1, 6))
        self.check_same(ways(TWELVE[:5], log, processors=5), factorial(5))
        self.assertEqual(len(counted_lists(THREE, 3, FIRST_COME, 3)), 27)


if __name__ == "__main__":
    unittest.main()
