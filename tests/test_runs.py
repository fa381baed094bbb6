"""Points 3, 5 and 8 to 11: runs of given lengths."""

import unittest
from itertools import product
from random import Random

from blindslots.errors import NoJobs, NoLengths, NoName, NoRule
from blindslots.runs import finish_units, first_split, log_of, run, units_of
from tests.checks import NO_COUNTS, NOT_A_TUPLE, ODD_VALUES, Checks, with_item
from tests.reference import (
    FIRST_COME, LAST_COME, ROUND_ROBIN, RULES, all_lengths, cases, finishes_from, first_parting, history_of,
    log_from, run_from, stretches_from,
)

FAR = 10 ** 30
TWO = (("a", ("at", 0), 0), ("b", ("at", 0), 0))
GAP = (("a", ("at", 0), 0), ("b", ("at", 5), 0))
THREE = (("a", ("at", 0), 0), ("b", ("at", 0), 0), ("c", ("at", 1), 0))
WRONG = (TWO[0], TWO[0])


def split_self(jobs, lengths, **more):
    """`first_split` with the lengths on both sides."""
    return first_split(jobs, lengths, lengths, **more)


def units_of_first(jobs, lengths, **more):
    """`units_of` for a job that is there, if the jobs are right."""
    return units_of(jobs, lengths, "a", **more)


FUNCTIONS = (run, finish_units, log_of, units_of_first, split_self)


class ArgumentTest(Checks):

    def check_no_lengths(self, jobs, lengths, place):
        for function in FUNCTIONS:
            self.check_fault(NoLengths, "place", place, function, jobs, lengths)
        right = (1,) * len(jobs)
        self.check_fault(NoLengths, "place", place, first_split, jobs, right, lengths)

    def test_lengths_are_no_tuple(self):
        for lengths in NOT_A_TUPLE:
            self.check_no_lengths(TWO, lengths, 0)
            self.check_no_lengths((), lengths, 0)

    def test_missing_length(self):
        for many in range(3):
            self.check_no_lengths(THREE, (1,) * many, many)

    def test_length_without_a_job(self):
        self.check_no_lengths((), (1,), 0)
        for many in range(1, 4):
            self.check_no_lengths(THREE[:many], (2,) * (many + 1), many)
            self.check_no_lengths(THREE[:many], (2,) * (many + 3), many)
            self.check_no_lengths(THREE[:many], (2,) * many + (None,), many)

    def test_length_is_no_integer_from_1_on(self):
        for wrong in NO_COUNTS:
            for place in range(3):
                self.check_no_lengths(THREE, with_item((1, 2, 3), place, wrong), place)

    def test_first_fault(self):
        self.check_no_lengths(THREE, (1, 0), 1)
        self.check_no_lengths(THREE, (1, 0, 0), 1)
        self.check_no_lengths(THREE, (1, 2, True, 4), 2)
        self.check_no_lengths(THREE, (None, None, None, None), 0)

    def test_no_other_error_than_no_lengths(self):
        for odd in ODD_VALUES:
            if odd != (1, 2, 3):
                self.check_no_lengths(THREE, odd, 0)
            if odd is True or odd not in (1, 10, FAR):
                self.check_no_lengths(THREE, (1, odd, 1), 1)

    def test_order_of_the_checks(self):
        right = {"jobs": TWO, "lengths": (1, 1), "rule": ROUND_ROBIN}
        rule = ((("queue", 1),), 0)
        faults = (("jobs", WRONG, NoJobs), ("rule", rule, NoRule), ("lengths", (1, 0), NoLengths))
        for function in FUNCTIONS:
            self.check_order(function, right, faults)
        self.check_order(first_split, {**right, "others": (1, 1)}, faults + (("others", (2, 0), NoLengths),))
        self.check_fault(NoLengths, "place", 0, first_split, TWO, (0, 1), (1, 0))
        self.check_fault(NoLengths, "place", 1, first_split, TWO, (1, 0), (0, 1))
        for jobs, rule, lengths, error in (
            (WRONG, FIRST_COME, (1, 1), NoJobs), (TWO, ((("queue", 1),), 0), (1, 1), NoRule),
            (TWO, FIRST_COME, (1, 0), NoLengths),
        ):
            # The name is checked last.
            self.check_fault(error, "place", 1, units_of, jobs, lengths, "x", rule=rule)

    def test_arguments_by_name(self):
        more = {"jobs": TWO, "lengths": (2, 2), "rule": ROUND_ROBIN, "processors": 1}
        self.check_same(run(**more), ((1, 1, ("a",)), (2, 2, ("b",)), (3, 3, ("a",)), (4, 4, ("b",))))
        self.check_same(finish_units(**more), (3, 4))
        self.check_same(log_of(**more), ((3, 1), (4, 1)))
        self.check_same(units_of(name="b", **more), ((2, 2), (4, 4)))
        self.check_same(first_split(others=(1, 2), **more), 3)

    def test_first_come_and_one_processor_by_default(self):
        for jobs, lengths, _, _ in cases(3, 100):
            more = {"rule": ((("queue", None),), None), "processors": 1}
            for function in FUNCTIONS:
                if function is not units_of_first or "a" in [job[0] for job in jobs]:
                    self.check_same(function(jobs, lengths), function(jobs, lengths, **more))


class RunTest(Checks):

    def check_run(self, jobs, lengths, rule, processors, expected):
        more = {"rule": rule, "processors": processors}
        self.check_same(run(jobs, lengths, **more), expected)
        units = history_of(jobs, lengths, rule, processors)
        self.check_same(run_from(units), expected)
        self.check_same(finish_units(jobs, lengths, **more), finishes_from(jobs, units))
        self.check_same(log_of(jobs, lengths, **more), log_from(units))

    def test_examples(self):
        self.check_same(run(TWO, (2, 2), rule=ROUND_ROBIN),
                        ((1, 1, ("a",)), (2, 2, ("b",)), (3, 3, ("a",)), (4, 4, ("b",))))
        self.check_same(finish_units(TWO, (2, 2), rule=ROUND_ROBIN), (3, 4))
        self.check_same(run(GAP, (2, 2)), ((1, 2, ("a",)), (3, 5, ()), (6, 7, ("b",))))

    def test_without_jobs(self):
        for rule, processors in product(RULES, (1, 8)):
            for function in (run, finish_units, log_of):
                self.check_same(function((), (), rule=rule, processors=processors), ())

    def test_first_come_by_hand(self):
        self.check_run(THREE, (3, 1, 2), FIRST_COME, 1, ((1, 3, ("a",)), (4, 4, ("b",)), (5, 6, ("c",))))
        self.check_same(finish_units(THREE, (3, 1, 2)), (3, 4, 6))
        self.check_same(log_of(THREE, (3, 1, 2)), ((3, 1), (4, 1), (6, 1)))
        self.check_run(THREE, (3, 1, 2), FIRST_COME, 2, ((1, 1, ("a", "b")), (2, 3, ("a", "c"))))
        self.check_same(finish_units(THREE, (3, 1, 2), processors=2), (3, 1, 3))
        self.check_same(log_of(THREE, (3, 1, 2), processors=2), ((1, 1), (3, 2)))
        self.check_run(THREE, (3, 1, 2), FIRST_COME, 3, ((1, 1, ("a", "b")), (2, 3, ("a", "c"))))

    def test_begins_with_unit_1(self):
        late = (("a", ("at", 3), 0),)
        self.check_run(late, (2,), FIRST_COME, 1, ((1, 3, ()), (4, 5, ("a",))))
        self.check_same(finish_units(late, (2,)), (5,))

    def test_arrival_in_time_for_the_next_unit(self):
        jobs = (("a", ("at", 0), 0), ("b", ("at", 2), 0))
        self.check_run(jobs, (2, 1), FIRST_COME, 1, ((1, 2, ("a",)), (3, 3, ("b",))))
        self.check_run(jobs, (1, 1), FIRST_COME, 1, ((1, 1, ("a",)), (2, 2, ()), (3, 3, ("b",))))
        self.check_run(jobs, (3, 1), LAST_COME, 1, ((1, 2, ("a",)), (3, 3, ("b",)), (4, 4, ("a",))))

    def test_jobs_enter_in_the_order_of_the_list(self):
        jobs = (("z", ("at", 0), 0), ("y", ("after", 1), 0), ("b", ("at", 1), 0), ("a", ("after", 1), 0))
        self.check_run(jobs, (1, 1, 1, 1), FIRST_COME, 1, (
            (1, 1, ("z",)), (2, 2, ("y",)), (3, 3, ("b",)), (4, 4, ("a",))))
        self.check_run(jobs, (1, 1, 1, 1), LAST_COME, 1, (
            (1, 1, ("z",)), (2, 2, ("a",)), (3, 3, ("b",)), (4, 4, ("y",))))

    def test_several_finishes_in_one_unit_count_together(self):
        jobs = TWO + (("c", ("after", 2), 0), ("d", ("after", 1), 0))
        self.check_run(jobs, (2, 2, 1, 3), FIRST_COME, 2, ((1, 2, ("a", "b")), (3, 3, ("c", "d")), (4, 5, ("d",))))
        self.check_run(jobs, (2, 3, 1, 3), FIRST_COME, 2, (
            (1, 2, ("a", "b")), (3, 3, ("b", "d")), (4, 4, ("d", "c")), (5, 5, ("d",))))

    def test_queue_with_quantum(self):
        rule = ((("queue", 2),), None)
        self.check_run(THREE, (3, 1, 2), rule, 1, (
            (1, 2, ("a",)), (3, 3, ("b",)), (4, 5, ("c",)), (6, 6, ("a",))))
        # A job alone starts its quantum again at once; the stretch goes on.
        self.check_run(TWO[:1], (7,), rule, 1, ((1, 7, ("a",)),))

    def test_arrival_stands_behind_the_job_whose_quantum_ends(self):
        jobs = (("a", ("at", 0), 0), ("b", ("at", 1), 0))
        self.check_run(jobs, (2, 1), ROUND_ROBIN, 1, ((1, 2, ("a",)), (3, 3, ("b",))))

    def test_round_robin_on_two_processors(self):
        at_once = TWO + (("c", ("at", 0), 0),)
        self.check_run(at_once, (2, 2, 2), ROUND_ROBIN, 2, (
            (1, 1, ("a", "b")), (2, 2, ("c", "a")), (3, 3, ("b", "c"))))
        # Only the order of the running jobs changes, which makes another stretch.
        self.check_run(TWO, (3, 1), ((("queue", 1), ("queue", None)), None), 2, ((1, 1, ("a", "b")), (2, 3, ("a",))))
        jobs = (("a", ("at", 0), 0), ("b", ("at", 0), 1))
        self.check_run(jobs, (3, 3), ((("queue", 1), ("queue", None)), None), 2, (
            (1, 1, ("a", "b")), (2, 3, ("b", "a"))))

    def test_boost(self):
        jobs = TWO + (("c", ("at", 3), 0),)
        levels = (("queue", 1), ("queue", None))
        self.check_run(jobs, (3, 2, 1), (levels, 3), 1, (
            (1, 1, ("a",)), (2, 2, ("b",)), (3, 4, ("a",)), (5, 5, ("b",)), (6, 6, ("c",))))
        self.check_run(jobs, (3, 2, 1), (levels, None), 1, (
            (1, 1, ("a",)), (2, 2, ("b",)), (3, 3, ("a",)), (4, 4, ("c",)), (5, 5, ("a",)), (6, 6, ("b",))))
        self.check_run(TWO, (4, 4), ((("queue", 2),), 3), 1, (
            (1, 2, ("a",)), (3, 5, ("b",)), (6, 7, ("a",)), (8, 8, ("b",))))

    def test_entries(self):
        jobs = (("a", ("at", 0), 9), ("b", ("at", 0), 1), ("c", ("at", 0), 0))
        levels = (("queue", None), ("stack", None))
        self.check_run(jobs, (1, 1, 1), (levels, None), 1, ((1, 1, ("c",)), (2, 2, ("b",)), (3, 3, ("a",))))
        self.check_run(jobs, (1, 1, 1), (levels[:1], None), 1, ((1, 1, ("a",)), (2, 2, ("b",)), (3, 3, ("c",))))

    def test_large_numbers(self):
        jobs = (("a", ("at", 0), 0), ("b", ("at", FAR), 0), ("c", ("after", 2), 0), ("d", ("at", 10 ** 31 - 2), 0))
        for levels in ((("queue", None),), (("stack", FAR), ("queue", 1)), (("queue", 1), ("stack", 2))):
            for boost in (None, 1, 7, FAR):
                self.check_same(run(jobs, (1, 2, 3, 1), rule=(levels, boost)), (
                    (1, 1, ("a",)), (2, FAR, ()), (FAR + 1, FAR + 2, ("b",)), (FAR + 3, FAR + 5, ("c",)),
                    (FAR + 6, 10 ** 31 - 2, ()), (10 ** 31 - 1, 10 ** 31 - 1, ("d",))))

    def test_boost_at_a_late_moment(self):
        jobs = (("a", ("at", FAR - 2), 0), ("b", ("at", FAR - 2), 0), ("c", ("at", FAR), 0))
        rule = ((("queue", 1), ("queue", None)), FAR)
        self.check_same(run(jobs, (3, 2, 1), rule=rule), (
            (1, FAR - 2, ()), (FAR - 1, FAR - 1, ("a",)), (FAR, FAR, ("b",)),
            (FAR + 1, FAR + 1, ("a",)), (FAR + 2, FAR + 2, ("b",)), (FAR + 3, FAR + 3, ("c",)),
            (FAR + 4, FAR + 4, ("a",))))

    def test_idle_stretch_of_any_length(self):
        """Behind an idle stretch everything happens as behind a shorter one, but later."""
        random = Random(11)
        for _ in range(300):
            lengths = tuple(random.randint(1, 6) for _ in "abcdef")
            places = [random.randint(0, 9) for _ in "abcdef"]
            levels = tuple((random.choice(("queue", "stack")), random.choice((None, 1, 2, FAR))) for _ in range(3))
            rule = (levels, random.choice((None, 1, 2, 4, 5, 10)))
            processors = random.choice((1, 2, 3))
            entries = [random.randint(0, 3) for _ in "abcdef"]
            runs = []
            for start in (100, FAR):
                jobs = tuple((name, ("at", place if k < 3 else start + place), entry)
                             for k, (name, place, entry) in enumerate(zip("abcdef", places, entries)))
                stretches = run(jobs, lengths, rule=rule, processors=processors)
                runs.append([tuple(number - start if number >= start else number for number in (first, last)) + (names,)
                             for first, last, names in stretches])
            self.check_same(runs[0], runs[1])

    def test_two_thousand_units(self):
        jobs = tuple((name, ("at", 0), 0) for name in "abcdefghijkl")
        lengths = (167,) * 11 + (163,)
        for rule in RULES:
            self.check_same(sum(lengths), 2000)
            for processors in (1, 3):
                units = history_of(jobs, lengths, rule, processors)
                self.check_same(run(jobs, lengths, rule=rule, processors=processors), run_from(units))

    def test_all_small_lengths_under_each_rule(self):
        jobs = THREE[:1] + (("b", ("after", 1), 1), ("c", ("at", 1), 0), ("d", ("at", 4), 2))
        for rule, processors in product(RULES, (1, 2)):
            for lengths in all_lengths(4, 3):
                units = history_of(jobs, lengths, rule, processors)
                self.check_run(jobs, lengths, rule, processors, run_from(units))

    def test_against_the_reference(self):
        for jobs, lengths, rule, processors in cases(16, 2500, 8):
            units = history_of(jobs, lengths, rule, processors)
            self.check_run(jobs, lengths, rule, processors, run_from(units))

    def test_first_come_against_the_reference(self):
        for jobs, lengths, _, processors in cases(15, 1000):
            units = history_of(jobs, lengths, FIRST_COME, processors)
            self.check_same(run(jobs, lengths, processors=processors), run_from(units))

    def test_stretches_are_as_long_as_possible(self):
        for jobs, lengths, rule, processors in cases(17, 500):
            stretches = run(jobs, lengths, rule=rule, processors=processors)
            self.assertEqual([first for first, _, _ in stretches], [1] * bool(jobs) + [
                last + 1 for _, last, _ in stretches[:-1]])
            for before, behind in zip(stretches, stretches[1:]):
                self.assertNotEqual(before[2], behind[2])

    def test_equal_calls_give_equal_results(self):
        for _ in range(3):
            self.check_same(run(GAP, (2, 2)), ((1, 2, ("a",)), (3, 5, ()), (6, 7, ("b",))))


class UnitsOfTest(Checks):

    def test_by_hand(self):
        self.check_same(units_of(TWO, (2, 2), "a", rule=ROUND_ROBIN), ((1, 1), (3, 3)))
        self.check_same(units_of(TWO, (2, 2), "b", rule=ROUND_ROBIN), ((2, 2), (4, 4)))
        self.check_same(units_of(GAP, (2, 2), "b"), ((6, 7),))
        self.check_same(units_of(THREE, (1, 1, 2), "a", rule=LAST_COME), ((4, 4),))
        self.check_same(units_of(THREE, (1, 3, 2), "b", rule=LAST_COME), ((1, 1), (4, 5)))

    def test_stretches_go_on_beside_other_jobs(self):
        # a runs on while the job beside it changes, and while their order changes.
        self.check_same(units_of(THREE, (3, 1, 2), "a", processors=2), ((1, 3),))
        jobs = (("a", ("at", 0), 0), ("b", ("at", 0), 1))
        self.check_same(units_of(jobs, (3, 3), "a", rule=((("queue", 1), ("queue", None)), None), processors=2),
                        ((1, 3),))

    def test_large_numbers(self):
        jobs = (("a", ("at", 0), 0), ("b", ("at", FAR), 0))
        self.check_same(units_of(jobs, (1, 3), "b"), ((FAR + 1, FAR + 3),))

    def test_no_name(self):
        for name in ("c", "", "A", "ab", "a ", "at", None, True, 0, (), ("a",), ["a"], [], (("a",),)):
            self.check_fault(NoName, "name", name, units_of, TWO, (1, 1), name)
            self.check_fault(NoName, "name", name, units_of, TWO, (2, 1), name, rule=ROUND_ROBIN, processors=2)
            self.check_fault(NoName, "name", name, units_of, (), (), name)

    def test_against_the_reference(self):
        for jobs, lengths, rule, processors in cases(18, 600):
            units = history_of(jobs, lengths, rule, processors)
            for k, job in enumerate(jobs):
                inside = stretches_from([job[0] in running for running, _ in units])
                found = units_of(jobs, lengths, job[0], rule=rule, processors=processors)
                self.check_same(found, tuple((first, last) for first, last, there in inside if there))
                self.check_same(sum(last - first + 1 for first, last in found), lengths[k])


class FirstSplitTest(Checks):

    def test_by_hand(self):
        self.check_same(first_split(TWO, (2, 1), (1, 2)), 2)
        self.check_same(first_split(TWO, (2, 2), (1, 2), rule=ROUND_ROBIN), 3)
        self.check_same(first_split(TWO, (2, 2), (2, 1), rule=ROUND_ROBIN), 4)
        self.check_same(first_split(THREE, (1, 5, 2), (4, 1, 2), processors=2), 2)

    def test_equal_lists(self):
        self.assertIsNone(first_split((), (), ()))
        for rule, processors in product(RULES, (1, 2)):
            self.assertIsNone(first_split(THREE, (3, 1, 2), (3, 1, 2), rule=rule, processors=processors))

    def test_run_that_has_ended_has_no_running_jobs(self):
        self.check_same(first_split(TWO[:1], (2,), (3,)), 3)
        self.check_same(first_split(TWO[:1], (3,), (2,)), 3)
        self.check_same(first_split(TWO, (2, 1), (2, 4)), 4)

    def test_idle_stretches(self):
        self.check_same(first_split(GAP, (1, 1), (2, 1)), 2)
        self.check_same(first_split(GAP, (1, 1), (1, 3)), 7)
        late = (("a", ("at", 0), 0), ("b", ("after", 1), 0), ("c", ("at", FAR), 0))
        self.check_same(first_split(late, (1, 1, 1), (1, 1, 2)), FAR + 2)
        self.check_same(first_split(late, (1, 1, 1), (1, 2, 1)), 3)

    def test_only_the_order_differs(self):
        jobs = tuple((name, ("at", 0), 0) for name in "abcd") + (("e", ("at", 2), 0), ("f", ("after", 2), 0))
        rule = ((("queue", 1), ("queue", None)), None)
        # If a finishes in unit 1, f enters a unit ahead of e; else both enter in the order of the list.
        self.check_same(run(jobs, (1,) * 6, rule=rule, processors=2), (
            (1, 1, ("a", "b")), (2, 2, ("c", "d")), (3, 3, ("f", "e"))))
        self.check_same(run(jobs, (2,) + (1,) * 5, rule=rule, processors=2), (
            (1, 1, ("a", "b")), (2, 2, ("c", "d")), (3, 3, ("e", "f")), (4, 4, ("a",))))
        self.check_same(first_split(jobs, (1,) * 6, (2,) + (1,) * 5, rule=rule, processors=2), 3)

    def test_against_the_reference(self):
        random = Random(19)
        orders = 0
        for jobs, lengths, rule, processors in cases(19, 2500):
            others = tuple(random.choice((length, length, random.randint(1, 6))) for length in lengths)
            both = [history_of(jobs, each, rule, processors) for each in (lengths, others)]
            expected = first_parting(*both)
            more = {"rule": rule, "processors": processors}
            self.check_same(first_split(jobs, lengths, others, **more), expected)
            self.check_same(first_split(jobs, others, lengths, **more), expected)
            finishes = [dict(zip([job[0] for job in jobs], finishes_from(jobs, units))) for units in both]
            parts = [unit for name in finishes[0] for unit in (finishes[0][name], finishes[1][name])
                     if finishes[0][name] != finishes[1][name]]
            # The runs are equal up to and including the first unit in which the finishes differ.
            if parts:
                self.assertTrue(expected is None or expected > min(parts))
            else:
                self.check_same(lengths, others)
            orders += expected is not None
        self.assertGreater(orders, 1000)


if __name__ == "__main__":
    unittest.main()
