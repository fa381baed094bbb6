"""Points 9, 15, 16, 18 and 19: marks, translation, cycles and parting."""

import unittest
from itertools import combinations, product
from random import Random

from blindslots.errors import NoJobs, NoLengths, NoMarks, NoRule
from blindslots.logs import first_fault, ways
from blindslots.marks import cycle, lengths_of, marks_of, parting, translate
from blindslots.runs import log_of
from tests.checks import NO_COUNTS, NOT_A_TUPLE, ODD_VALUES, Checks, with_item
from tests.reference import (
    FIRST_COME, LAST_COME, ROUND_ROBIN, RULES, all_lengths, all_logs, cases, first_parting, history_of,
    lengths_from, log_from, marks_fault, marks_from, some_jobs, some_rule,
)

FAR = 10 ** 30
TWO = (("a", ("at", 0), 0), ("b", ("at", 0), 0))
GAP = (("a", ("at", 0), 0), ("b", ("at", 5), 0))
THREE = (("a", ("at", 0), 0), ("b", ("at", 0), 0), ("c", ("at", 1), 0))
MIXED = (("a", ("at", 0), 0), ("b", ("after", 1), 1), ("c", ("at", 1), 2))
EIGHT = tuple((name, ("at", 0), 0) for name in "abcdefgh")
WRONG = (TWO[0], TWO[0])
NO_BOOST = ((("queue", 1),), 0)
# Right marks of EIGHT on three processors.
MARKS = ((2, (0,)), (3, (1, 2)), (7, (0, 1, 2)), (9, (1,)), (10, (0,)))


class MarksOfTest(Checks):

    def check_marks(self, jobs, lengths, rule, processors, expected):
        """These are the marks of the lengths, and these the lengths of the marks."""
        more = {"rule": rule, "processors": processors}
        self.check_same(marks_of(jobs, lengths, **more), expected)
        self.check_same(lengths_of(jobs, expected, **more), lengths)

    def test_by_hand(self):
        self.check_marks((), (), FIRST_COME, 1, ())
        self.check_marks(TWO, (2, 2), ROUND_ROBIN, 1, ((3, (0,)), (4, (0,))))
        self.check_marks(GAP, (2, 2), FIRST_COME, 1, ((2, (0,)), (7, (0,))))
        # c runs ahead of a in unit 2, b ahead of c in unit 3.
        at_once = TWO + (("c", ("at", 0), 0),)
        self.check_marks(at_once, (2, 2, 2), ROUND_ROBIN, 2, ((2, (1,)), (3, (0, 1))))
        self.check_marks(THREE, (3, 1, 2), FIRST_COME, 2, ((1, (1,)), (3, (0, 1))))
        self.check_marks(THREE, (2, 4, 1), LAST_COME, 2, ((2, (0,)), (3, (1,)), (4, (0,))))

    def test_places_are_those_of_the_running_jobs(self):
        # b waits between the running jobs of the list, but not among them.
        jobs = (("a", ("at", 0), 0), ("b", ("at", 0), 1), ("c", ("at", 0), 0))
        rule = ((("queue", None), ("queue", None)), None)
        self.check_marks(jobs, (2, 1, 1), rule, 2, ((1, (1,)), (2, (0, 1))))

    def test_large_numbers(self):
        jobs = (("a", ("at", 0), 0), ("b", ("at", FAR), 0), ("c", ("at", FAR), 0), ("d", ("after", 3), 0))
        for levels, boost in product(((("queue", FAR),), (("queue", 1), ("stack", 3))), (None, 1, FAR)):
            self.check_marks(jobs, (2, 1, 1, 5), (levels, boost), 1, (
                (2, (0,)), (FAR + 1, (0,)), (FAR + 2, (0,)), (FAR + 7, (0,))))

    def test_against_the_reference(self):
        for jobs, lengths, rule, processors in cases(20, 2500, 8):
            self.check_marks(jobs, lengths, rule, processors, marks_from(history_of(jobs, lengths, rule, processors)))

    def test_order_of_the_checks(self):
        right = {"jobs": TWO, "lengths": (1, 1), "rule": ROUND_ROBIN, "processors": 2}
        self.check_order(marks_of, right, (
            ("jobs", WRONG, NoJobs), ("rule", NO_BOOST, NoRule), ("lengths", (1, 0), NoLengths)))
        right = {"jobs": TWO, "marks": ((1, (0,)), (2, (0,))), "rule": ROUND_ROBIN, "processors": 2}
        self.check_order(lengths_of, right, (
            ("jobs", WRONG, NoJobs), ("rule", NO_BOOST, NoRule), ("marks", ((1, (0,)),), NoMarks)))

    def test_wrong_lengths(self):
        for lengths, place in (((), 0), ((1,), 1), ((1, 2, 3), 2), ((0, 1), 0), ((1, True), 1), ([1, 1], 0), (None, 0)):
            self.check_fault(NoLengths, "place", place, marks_of, TWO, lengths)

    def test_first_come_and_one_processor_by_default(self):
        for jobs, lengths, _, _ in cases(21, 100):
            more = {"rule": ((("queue", None),), None), "processors": 1}
            marks = marks_of(jobs, lengths)
            self.check_same(marks, marks_of(jobs, lengths, **more))
            self.check_same(lengths_of(jobs, marks), lengths_of(jobs, marks, **more))

    def test_two_thousand_units(self):
        jobs = tuple((name, ("at", 0), 0) for name in "abcdefghijkl")
        lengths = (167,) * 11 + (163,)
        for rule, processors in product(RULES, (1, 2)):
            more = {"rule": rule, "processors": processors}
            self.check_same(lengths_of(jobs, marks_of(jobs, lengths, **more), **more), lengths)

    def test_marks_and_lengths_determine_one_another(self):
        """Under each rule the right marks up to a unit are those of the lengths, each once."""
        last = 4
        for jobs, processors in product(((), TWO, THREE, MIXED, GAP), (1, 2, 3)):
            for rule in RULES:
                more = {"rule": rule, "processors": processors}
                found = {}
                for lengths in all_lengths(len(jobs), last):
                    marks = marks_of(jobs, lengths, **more)
                    self.assertNotIn(marks, found)
                    found[marks] = lengths
                    self.check_same(lengths_of(jobs, marks, **more), lengths)
                for marks in self.all_right_marks(jobs, processors, last):
                    lengths = lengths_of(jobs, marks, **more)
                    self.check_same(marks_of(jobs, lengths, **more), marks)
                    self.check_same(found[marks], lengths)

    def all_right_marks(self, jobs, processors, last):
        """All right marks up to a unit, from all pairs of units and places."""
        right = []
        for log in all_logs(last, len(jobs)):
            if ways(jobs, log, processors=processors):
                choices = [combinations(range(processors), finishes) for _, finishes in log]
                marks = [tuple(zip([unit for unit, _ in log], places)) for places in product(*choices)]
                right += [each for each in marks if marks_fault(jobs, each, FIRST_COME, processors) is None]
        return right

    def test_one_processor_gives_one_list_for_each_possible_log(self):
        last = 6
        for jobs, rule in product((THREE, MIXED, GAP, EIGHT[:3]), RULES):
            found = {}
            for lengths in all_lengths(len(jobs), last):
                log = log_from(history_of(jobs, lengths, rule, 1))
                self.assertNotIn(log, found)
                found[log] = lengths
            for log in all_logs(last, 1):
                if first_fault(jobs, log) is None:
                    self.check_same(ways(jobs, log), 1)
                    marks = tuple((unit, (0,)) for unit, _ in log)
                    self.check_same(lengths_of(jobs, marks, rule=rule), found[log])
                else:
                    self.assertNotIn(log, found)


class NoMarksTest(Checks):

    def check_no_marks(self, marks, place, jobs=EIGHT, processors=3, rules=RULES[:4]):
        for rule in rules:
            more = {"rule": rule, "processors": processors}
            self.check_fault(NoMarks, "place", place, lengths_of, jobs, marks, **more)
            self.check_fault(NoMarks, "place", place, parting, jobs, marks, other=LAST_COME, **more)

    def test_right_marks(self):
        for rule in RULES:
            found = lengths_of(EIGHT, MARKS, rule=rule, processors=3)
            self.check_same(found, lengths_from(EIGHT, MARKS, rule, 3))

    def test_no_tuple(self):
        for marks in NOT_A_TUPLE:
            self.check_no_marks(marks, 0)
            self.check_no_marks(marks, 0, ())

    def test_pair_of_another_form(self):
        for pair in (None, True, 0, 1, "", "ab", (), (7,), (7, (0,), (0,)), [7, (0,)], [], [(7, (0,))], ((7, (0,)),),
                     ("7", (0,)), (None, (0,)), (True, (0,)), ((7,), (0,)), ([7], (0,)), ((0,), 7)):
            self.check_no_marks((pair,), 0)
            self.check_no_marks(MARKS + (pair,), 5)
            for place in range(5):
                self.check_no_marks(with_item(MARKS, place, pair), place)

    def test_units_are_greater_than_those_before(self):
        for unit in NO_COUNTS:
            for place in (0, 3):
                self.check_no_marks(with_item(MARKS, place, (unit, (0,))), place)
        for place in range(1, 5):
            for unit in (MARKS[place - 1][0], MARKS[place - 1][0] - 1, 1):
                self.check_no_marks(with_item(MARKS, place, (unit, (0,))), place)
        self.check_no_marks(((FAR, (0,)), (FAR, (0,))), 1)

    def test_places_are_a_tuple_of_ascending_integers(self):
        for places in (None, True, 0, 1, "", "0", (), [], [0], [0, 1], (-1,), (True,), (False,), (None,), ("0",),
                       ((0,),), ([0],), (0, 0), (1, 0), (1, 1), (0, 2, 1), (2, 1, 0), (0, True), (False, 1), (-1, 0),
                       (0, None), (0, "1"), (0, (1,)), (-FAR,)):
            self.check_no_marks(((1, places),), 0)
            for place in range(5):
                self.check_no_marks(with_item(MARKS, place, (MARKS[place][0], places)), place)

    def test_place_that_is_not_less_than_the_running_jobs(self):
        for places in ((3,), (0, 3), (0, 1, 2, 3), (4,), (FAR,)):
            for place in range(3):
                self.check_no_marks(with_item(MARKS, place, (MARKS[place][0], places)), place)
        # Two jobs are left in unit 9, one in unit 10.
        self.check_no_marks(with_item(MARKS, 3, (9, (2,))), 3)
        self.check_no_marks(with_item(MARKS, 4, (10, (1,))), 4)
        self.check_no_marks(with_item(MARKS, 4, (10, (0, 1))), 4)
        # One processor, or more processors than jobs.
        self.check_no_marks(((1, (1,)),), 0, processors=1)
        self.check_no_marks(((1, (2,)),), 0, TWO, 8)

    def test_jobs_that_have_not_arrived(self):
        self.check_no_marks(((5, (1,)),), 0, GAP)
        self.check_no_marks(((2, (0,)), (5, (0,))), 1, GAP)
        self.check_no_marks(((2, (0,)), (6, (1,))), 1, GAP)
        self.check_same(lengths_of(GAP, ((6, (1,)), (7, (0,))), processors=3), (7, 1))
        jobs = TWO + (("c", ("after", 2), 0),)
        self.check_no_marks(((1, (2,)),), 0, jobs)
        self.check_no_marks(((1, (0,)), (2, (1,))), 1, jobs)
        self.check_no_marks(((1, (0, 1)), (2, (1,))), 1, jobs)
        self.check_same(lengths_of(jobs, ((1, (0,)), (2, (0,)), (3, (0,))), processors=3), (1, 2, 1))

    def test_unit_far_away(self):
        # The wrong place is found without running the job up to it.
        self.check_no_marks(((FAR, (1,)),), 0, TWO[:1])
        self.check_no_marks(((1, (0,)), (FAR, (0, 1))), 1, TWO)
        self.check_no_marks(((1, (0,)), (6, (0,)), (FAR, (0,))), 2, GAP + (("c", ("at", FAR), 0),))

    def test_some_jobs_have_not_finished(self):
        for many in range(5):
            self.check_no_marks(MARKS[:many], many)
        self.check_no_marks((), 0, TWO)
        self.check_no_marks(((2, (0,)),), 1, GAP)
        self.check_no_marks(((2, (0,)),), 1, TWO + (("c", ("after", 2), 0),))

    def test_pair_behind_the_last_finish(self):
        self.check_no_marks(MARKS + ((11, (0,)),), 5)
        self.check_no_marks(((1, (0,)),), 0, ())

    def test_first_of_two_faults(self):
        for first, second in product(range(5), range(5)):
            if first < second:
                for wrong, other in product((None, (1, (3,)), (0, (0,))), ((9, (True,)), (1, (0,)), (9, (3,)))):
                    marks = with_item(with_item(MARKS, second, other), first, wrong)
                    self.check_no_marks(marks, first, rules=RULES[:1])

    def test_a_place_too_large_goes_before_a_wrong_form_behind_it(self):
        self.check_no_marks(((1, (3,)), None), 0)
        self.check_no_marks(((1, (3,)), (0, ())), 0)

    def test_no_other_error_than_no_marks(self):
        for odd in ODD_VALUES:
            self.check_no_marks(odd, 0)
            self.check_no_marks(((1, (0,)), odd), 1)
            self.check_no_marks(((1, (0,)), (odd, (3,))), 1)
            self.check_no_marks(((1, (0,)), (2, odd)), 1)
            if odd is False or odd not in (0, 1):
                self.check_no_marks(((1, (0,)), (2, (0, odd))), 1)

    def test_wrong_marks_are_wrong_under_each_rule(self):
        """Marks with a change by chance: right ones are told from wrong ones by a run."""
        random = Random(16)
        wrong = 0
        for jobs, lengths, _, processors in cases(22, 1500):
            rule = some_rule(random)
            marks = marks_from(history_of(jobs, lengths, rule, processors))
            if not marks:
                continue
            place = random.randrange(len(marks))
            unit = random.choice((marks[place][0], marks[place][0] + 1, random.randint(1, 12)))
            places = random.choice((marks[place][1], (0,), (1,), tuple(random.sample(range(3), 2))))
            changed = with_item(marks, place, (unit, places))
            expected = marks_fault(jobs, changed, rule, processors)
            more = {"rule": rule, "processors": processors}
            if expected is None:
                self.check_same(lengths_of(jobs, changed, **more), lengths_from(jobs, changed, rule, processors))
            else:
                wrong += 1
                self.check_fault(NoMarks, "place", expected, lengths_of, jobs, changed, **more)
        self.assertTrue(300 < wrong < 1000, wrong)


class TranslateTest(Checks):

    def test_example(self):
        self.check_same(translate(TWO, (2, 2), rule=ROUND_ROBIN, other=FIRST_COME), (3, 1))

    def test_by_hand(self):
        self.check_same(translate((), (), rule=ROUND_ROBIN, other=FIRST_COME), ())
        self.check_same(translate(TWO, (3, 1), rule=FIRST_COME, other=ROUND_ROBIN), (2, 2))
        self.check_same(translate(TWO, (3, 1), rule=FIRST_COME, other=LAST_COME), (1, 3))
        self.check_same(translate(THREE, (3, 1, 2), rule=FIRST_COME, other=LAST_COME, processors=2), (1, 3, 2))
        self.check_same(translate(GAP, (2, 2), rule=FIRST_COME, other=LAST_COME), (2, 2))

    def test_large_numbers(self):
        jobs = (("a", ("at", FAR), 0), ("b", ("at", FAR), 0))
        self.check_same(translate(jobs, (3, 1), rule=FIRST_COME, other=((("queue", 1),), FAR)), (2, 2))

    def test_order_of_the_checks(self):
        right = {"jobs": TWO, "lengths": (1, 1), "rule": ROUND_ROBIN, "other": FIRST_COME, "processors": 2}
        for function in (translate, cycle):
            self.check_order(function, right, (
                ("jobs", WRONG, NoJobs), ("rule", NO_BOOST, NoRule), ("other", NO_BOOST, NoRule),
                ("lengths", (1, 0), NoLengths)))
            self.check_fault(NoRule, "place", 0, function, TWO, (1, 1), rule=((), None), other=NO_BOOST)
            self.check_fault(NoRule, "place", 0, function, TWO, (1, 1), rule=FIRST_COME, other=None)
            for lengths, place in (((), 0), ((1,), 1), ((1, 2, 3), 2), ((1, True), 1), ([1, 1], 0), (None, 0)):
                self.check_fault(NoLengths, "place", place, function, TWO, lengths, rule=FIRST_COME, other=ROUND_ROBIN)

    def test_one_processor_by_default(self):
        for jobs, lengths, rule, _ in cases(23, 100, 4):
            both = {"rule": rule, "other": ROUND_ROBIN}
            found = translate(jobs, lengths, **both)
            self.check_same(found, translate(jobs, lengths, processors=1, **both))

    def test_against_the_reference(self):
        random = Random(18)
        for jobs, lengths, rule, processors in cases(24, 1500):
            other = some_rule(random)
            marks = marks_from(history_of(jobs, lengths, rule, processors))
            found = translate(jobs, lengths, rule=rule, other=other, processors=processors)
            self.check_same(found, lengths_from(jobs, marks, other, processors))
            self.check_same(marks_of(jobs, found, rule=other, processors=processors), marks)
            self.check_same(log_of(jobs, found, rule=other, processors=processors),
                            log_of(jobs, lengths, rule=rule, processors=processors))
            self.check_same(sum(found), sum(lengths))
            self.check_same(translate(jobs, found, rule=other, other=rule, processors=processors), lengths)
            self.check_same(translate(jobs, lengths, rule=rule, other=rule, processors=processors), lengths)


class CycleTest(Checks):

    def test_example(self):
        self.check_same(cycle(TWO, (2, 2), rule=ROUND_ROBIN, other=FIRST_COME), ((2, 2), (3, 1)))

    def test_one_list(self):
        self.check_same(cycle((), (), rule=ROUND_ROBIN, other=FIRST_COME), ((),))
        self.check_same(cycle(TWO, (2, 2), rule=ROUND_ROBIN, other=ROUND_ROBIN), ((2, 2),))
        self.check_same(cycle(TWO[:1], (16,), rule=LAST_COME, other=ROUND_ROBIN), ((16,),))

    def test_by_hand(self):
        # Last come runs b ahead of a.
        self.check_same(cycle(TWO, (3, 1), rule=FIRST_COME, other=LAST_COME), ((3, 1), (1, 3)))
        self.check_same(cycle(TWO, (1, 3), rule=FIRST_COME, other=LAST_COME), ((1, 3), (3, 1)))
        # Of these lists only (1, 3) has finishes in units 1 and 4, under both rules.
        self.check_same(cycle(TWO, (1, 3), rule=ROUND_ROBIN, other=FIRST_COME), ((1, 3),))
        self.check_same(cycle(TWO, (3, 1), rule=ROUND_ROBIN, other=FIRST_COME), ((3, 1), (2, 2)))

    def test_against_the_reference(self):
        random = Random(26)
        longest = 0
        for _ in range(150):
            jobs = some_jobs(random, 5, 6)
            most = 10 if len(jobs) == 5 else 16
            lengths = [1] * len(jobs)
            while jobs and sum(lengths) < most:
                lengths[random.randrange(len(jobs))] += 1
            self.check_cycle(jobs, tuple(lengths), random)
            longest = max(longest, self.size)
        self.assertGreater(longest, 10)

    def check_cycle(self, jobs, lengths, random):
        rule, other = some_rule(random), some_rule(random)
        processors = random.choice((1, 2, 3))
        found = cycle(jobs, lengths, rule=rule, other=other, processors=processors)
        self.assertEqual(found[0], lengths)
        self.assertEqual(len(set(found)), len(found))
        for before, behind in zip(found, found[1:] + found[:1]):
            marks = marks_from(history_of(jobs, before, rule, processors))
            self.check_same(behind, lengths_from(jobs, marks, other, processors))
        self.size = len(found)

    def test_at_the_limits(self):
        for jobs, lengths in ((EIGHT[:4], (4, 4, 4, 4)), (EIGHT[:5], (2, 2, 2, 2, 2)), (EIGHT[:4], (1, 1, 1, 13))):
            for rule, other, processors in product(RULES[:6], RULES[3:9], (1, 2)):
                found = cycle(jobs, lengths, rule=rule, other=other, processors=processors)
                self.check_same(translate(jobs, found[-1], rule=rule, other=other, processors=processors), lengths)


class PartingTest(Checks):

    def test_by_hand(self):
        marks = ((3, (0,)), (4, (0,)))
        self.check_same(parting(TWO, marks, rule=ROUND_ROBIN, other=FIRST_COME), 2)
        self.check_same(parting(TWO, marks, rule=LAST_COME, other=FIRST_COME), 1)
        self.check_same(parting(TWO, ((1, (0,)), (4, (0,))), rule=ROUND_ROBIN, other=FIRST_COME), None)
        three = ((("queue", 3),), None)
        self.check_same(parting(TWO, ((5, (0,)), (6, (0,))), rule=FIRST_COME, other=three), 4)
        self.check_same(parting(TWO, ((3, (0,)), (6, (0,))), rule=FIRST_COME, other=three), None)

    def test_equal_jobs_in_another_order_differ(self):
        marks = ((4, (0, 1)),)
        self.check_same(parting(TWO, marks, rule=FIRST_COME, other=LAST_COME, processors=2), 1)
        other = ((("queue", None), ("queue", None)), None)
        jobs = (("a", ("at", 0), 1), ("b", ("at", 2), 0))
        self.check_same(parting(jobs, marks, rule=FIRST_COME, other=other, processors=2), 3)

    def test_rules_that_do_not_part(self):
        self.assertIsNone(parting((), (), rule=ROUND_ROBIN, other=LAST_COME))
        marks = ((2, (0,)), (3, (1, 2)), (7, (0, 1, 2)), (9, (1,)), (10, (0,)))
        for rule in RULES:
            self.assertIsNone(parting(EIGHT, marks, rule=rule, other=rule, processors=3))
        self.assertIsNone(parting(EIGHT, marks, rule=FIRST_COME, other=((("queue", FAR),), FAR), processors=3))
        self.assertIsNone(parting(GAP, ((2, (0,)), (7, (0,))), rule=ROUND_ROBIN, other=LAST_COME))

    def test_large_numbers(self):
        jobs = (("a", ("at", FAR), 0), ("b", ("at", FAR), 0))
        marks = ((FAR + 3, (0,)), (FAR + 4, (0,)))
        self.check_same(parting(jobs, marks, rule=ROUND_ROBIN, other=FIRST_COME), FAR + 2)
        self.check_same(parting(jobs, marks, rule=FIRST_COME, other=LAST_COME), FAR + 1)

    def test_order_of_the_checks(self):
        right = {"jobs": TWO, "marks": ((1, (0,)), (2, (0,))), "rule": ROUND_ROBIN, "other": FIRST_COME,
                 "processors": 2}
        self.check_order(parting, right, (
            ("jobs", WRONG, NoJobs), ("rule", NO_BOOST, NoRule), ("other", NO_BOOST, NoRule),
            ("marks", ((1, (0,)),), NoMarks)))

    def test_one_processor_by_default(self):
        both = {"rule": ROUND_ROBIN, "other": FIRST_COME}
        self.check_fault(NoMarks, "place", 0, parting, TWO, ((1, (1,)), (2, (0,))), **both)
        self.check_same(parting(TWO, ((3, (0,)), (4, (0,))), **both), 2)

    def test_against_the_reference(self):
        random = Random(27)
        parted = 0
        for jobs, lengths, rule, processors in cases(27, 1500):
            other = random.choice((rule[0], some_rule(random)[0])), random.choice((rule[1], 2))
            marks = marks_from(history_of(jobs, lengths, rule, processors))
            others = lengths_from(jobs, marks, other, processors)
            expected = first_parting(history_of(jobs, lengths, rule, processors),
                                     history_of(jobs, others, other, processors))
            found = parting(jobs, marks, rule=rule, other=other, processors=processors)
            self.check_same(found, expected)
            self.check_same(parting(jobs, marks, rule=other, other=rule, processors=processors), expected)
            parted += found is not None
        self.assertTrue(300 < parted < 1200, parted)


if __name__ == "__main__":
    unittest.main()
