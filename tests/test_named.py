"""Points 3, 9 and 20: named finishes."""

import unittest
from itertools import permutations, product
from random import Random

from blindslots.errors import NoJobs, NoLengths, NoNamed, NoRule
from blindslots.marks import marks_of
from blindslots.named import fitting, lengths_from_names, names_of
from tests.checks import NO_COUNTS, NOT_A_TUPLE, ODD_VALUES, Checks, with_item
from tests.reference import (
    FIRST_COME, LAST_COME, ROUND_ROBIN, RULES, Play, all_lengths, cases, history_of, some_jobs, some_rule,
)

FAR = 10 ** 30
TWO = (("a", ("at", 0), 0), ("b", ("at", 0), 0))
GAP = (("a", ("at", 0), 0), ("b", ("at", 5), 0))
THREE = (("a", ("at", 0), 0), ("b", ("at", 0), 0), ("c", ("at", 1), 0))
EIGHT = tuple((name, ("at", 0), 0) for name in "abcdefgh")
WRONG = (TWO[0], TWO[0])
NO_BOOST = ((("queue", 1),), 0)
# Right named finishes of EIGHT on three processors, first come first served.
NAMED = ((2, ("b",)), (3, ("a", "d")), (7, ("c", "e", "f")), (9, ("h",)), (10, ("g",)))


def names_from(units):
    return tuple((k + 1, finishing) for k, (_, finishing) in enumerate(units) if finishing)


def named_fault(jobs, named, rule, processors):
    """The place of the fault of pairs of integers and tuples of strings, or None; and the lengths."""
    play = Play(jobs, rule, processors)
    for k, (unit, names) in enumerate(named):
        if unit <= len(play.units) or not names or len(set(names)) < len(names):
            return k, None
        while len(play.units) < unit - 1:
            play.one_unit(())
        if not set(names) <= set(play.row.running()):
            return k, None
        play.one_unit(names)
    if len(play.lengths) < len(jobs):
        return len(named), None
    return None, tuple(play.lengths[job[0]] for job in jobs)


def mixed_up(named, random):
    """The same finishes, with the names of each pair in an order by chance."""
    return tuple((unit, tuple(random.sample(names, len(names)))) for unit, names in named)


class NamesOfTest(Checks):

    def check_names(self, jobs, lengths, rule, processors, expected):
        """These are the named finishes of the lengths, and these the lengths of the named finishes."""
        more = {"rule": rule, "processors": processors}
        self.check_same(names_of(jobs, lengths, **more), expected)
        self.check_same(lengths_from_names(jobs, expected, **more), lengths)

    def test_by_hand(self):
        self.check_names((), (), FIRST_COME, 1, ())
        self.check_names(TWO, (2, 2), ROUND_ROBIN, 1, ((3, ("a",)), (4, ("b",))))
        self.check_names(TWO, (2, 1), LAST_COME, 1, ((1, ("b",)), (3, ("a",))))
        self.check_names(GAP, (2, 2), FIRST_COME, 1, ((2, ("a",)), (7, ("b",))))
        self.check_names(THREE, (2, 4, 1), LAST_COME, 2, ((2, ("c",)), (3, ("a",)), (4, ("b",))))

    def test_names_in_the_order_of_the_running_jobs(self):
        self.check_names(TWO, (3, 3), FIRST_COME, 2, ((3, ("a", "b")),))
        self.check_names(TWO, (3, 3), LAST_COME, 2, ((3, ("b", "a")),))
        at_once = TWO + (("c", ("at", 0), 0),)
        # In unit 2 c runs ahead of a, in unit 3 b ahead of c.
        self.check_names(at_once, (2, 2, 2), ROUND_ROBIN, 2, ((2, ("a",)), (3, ("b", "c"))))
        self.check_names(at_once, (2, 2, 1), ROUND_ROBIN, 2, ((2, ("c", "a")), (3, ("b",))))
        # A job that does not finish stands between the others.
        self.check_names(EIGHT[:3], (1, 2, 1), ((("queue", 1), ("queue", 1)), None), 3, ((1, ("a", "c")), (2, ("b",))))

    def test_large_numbers(self):
        jobs = (("a", ("at", 0), 0), ("b", ("at", FAR), 0), ("c", ("at", FAR), 0), ("d", ("after", 3), 0))
        for levels, boost in product(((("queue", FAR),), (("queue", 1), ("stack", 3))), (None, 1, FAR)):
            self.check_names(jobs, (2, 1, 1, 5), (levels, boost), 1, (
                (2, ("a",)), (FAR + 1, ("b",)), (FAR + 2, ("c",)), (FAR + 7, ("d",))))

    def test_against_the_reference(self):
        random = Random(40)
        for jobs, lengths, rule, processors in cases(40, 2000, 8):
            expected = names_from(history_of(jobs, lengths, rule, processors))
            self.check_names(jobs, lengths, rule, processors, expected)
            found = lengths_from_names(jobs, mixed_up(expected, random), rule=rule, processors=processors)
            self.check_same(found, lengths)
            marks = marks_of(jobs, lengths, rule=rule, processors=processors)
            self.assertEqual([(unit, len(names)) for unit, names in expected],
                             [(unit, len(places)) for unit, places in marks])

    def test_first_come_and_one_processor_by_default(self):
        for jobs, lengths, _, _ in cases(41, 100):
            more = {"rule": ((("queue", None),), None), "processors": 1}
            named = names_of(jobs, lengths)
            self.check_same(named, names_of(jobs, lengths, **more))
            self.check_same(lengths_from_names(jobs, named), lengths_from_names(jobs, named, **more))

    def test_wrong_lengths(self):
        for lengths in NOT_A_TUPLE:
            self.check_fault(NoLengths, "place", 0, names_of, TWO, lengths)
        for lengths, place in (((), 0), ((1,), 1), ((1, 2, 3), 2), ((0, 1), 0), ((1, True), 1)):
            self.check_fault(NoLengths, "place", place, names_of, TWO, lengths, rule=ROUND_ROBIN, processors=2)

    def test_order_of_the_checks(self):
        right = {"jobs": TWO, "lengths": (1, 1), "rule": ROUND_ROBIN, "processors": 2}
        self.check_order(names_of, right, (
            ("jobs", WRONG, NoJobs), ("rule", NO_BOOST, NoRule), ("lengths", (1, 0), NoLengths)))
        right = {"jobs": TWO, "named": ((1, ("a",)), (2, ("b",))), "rule": ROUND_ROBIN, "processors": 2}
        self.check_order(lengths_from_names, right, (
            ("jobs", WRONG, NoJobs), ("rule", NO_BOOST, NoRule), ("named", ((1, ("a",)),), NoNamed)))

    def test_names_in_each_order(self):
        named = ((1, ("c",)), (3, ("a", "b", "d")), (4, ("e",)))
        for names in permutations("abd"):
            changed = with_item(named, 1, (3, names))
            self.check_same(lengths_from_names(EIGHT[:5], changed, processors=4), (3, 3, 1, 3, 3))

    def test_two_thousand_units(self):
        jobs = tuple((name, ("at", 0), 0) for name in "abcdefghijkl")
        lengths = (167,) * 11 + (163,)
        for rule, processors in product(RULES, (1, 2)):
            more = {"rule": rule, "processors": processors}
            self.check_same(lengths_from_names(jobs, names_of(jobs, lengths, **more), **more), lengths)


class NoNamedTest(Checks):

    def check_no_named(self, named, place, jobs=EIGHT, processors=3, rules=(FIRST_COME,)):
        for rule in rules:
            more = {"rule": rule, "processors": processors}
            self.check_fault(NoNamed, "place", place, lengths_from_names, jobs, named, **more)
        self.check_same(fitting(jobs, named, tuple(rules), processors=processors), ())

    def test_right_named_finishes(self):
        self.check_same(lengths_from_names(EIGHT, NAMED, processors=3), (3, 2, 7, 1, 4, 4, 3, 2))
        self.check_same(names_of(EIGHT, (3, 2, 7, 1, 4, 4, 3, 2), processors=3), NAMED)

    def test_example(self):
        self.check_fault(NoNamed, "place", 0, lengths_from_names, TWO, ((1, ("b",)),))

    def test_no_tuple(self):
        for named in NOT_A_TUPLE:
            self.check_no_named(named, 0, rules=RULES)
            self.check_no_named(named, 0, ())

    def test_pair_of_another_form(self):
        for pair in (None, True, 0, 1, "", "ab", (), (7,), (7, ("c",), ("c",)), [7, ("c",)], [], [(7, ("c",))],
                     ((7, ("c",)),), ("7", ("c",)), (None, ("c",)), (True, ("c",)), ((7,), ("c",)), (("c",), 7)):
            self.check_no_named((pair,), 0)
            self.check_no_named(NAMED + (pair,), 5)
            for place in range(5):
                self.check_no_named(with_item(NAMED, place, pair), place)

    def test_units_are_greater_than_those_before(self):
        for unit in NO_COUNTS:
            for place in (0, 3):
                self.check_no_named(with_item(NAMED, place, (unit, NAMED[place][1])), place)
        for place in range(1, 5):
            for unit in (NAMED[place - 1][0], NAMED[place - 1][0] - 1, 1):
                self.check_no_named(with_item(NAMED, place, (unit, NAMED[place][1])), place)
        self.check_no_named(((FAR, ("a",)), (FAR, ("b",))), 1, TWO)

    def test_names_are_a_tuple_of_different_strings(self):
        for names in (None, True, 0, "", "a", "ab", (), [], ["c"], ["c", "e"], (None,), (True,), (0,), (("c",),),
                      (["c"],), ("c", "c"), ("c", "e", "c"), ("c", None), ("c", 0), ("c", ("e",)), (0, "c")):
            self.check_no_named(((1, names),), 0)
            for place in range(5):
                self.check_no_named(with_item(NAMED, place, (NAMED[place][0], names)), place)

    def test_names_that_are_not_among_the_running_jobs(self):
        # d waits in unit 2; b has finished before unit 3; x is no job.
        for place, names in (
            (0, ("d",)), (0, ("b", "d")), (0, ("d", "b")), (0, ("h",)), (0, ("x",)), (0, ("",)), (0, ("A",)),
            (1, ("b",)), (1, ("a", "b")), (1, ("e",)), (1, ("a", "x")), (2, ("g",)), (2, ("a",)),
            (2, ("c", "e", "g")), (3, ("a",)), (3, ("c", "h")), (4, ("h",)), (4, ("g", "h")),
        ):
            self.check_no_named(with_item(NAMED, place, (NAMED[place][0], names)), place)
        self.check_no_named(((1, ("b",)), (2, ("a",))), 0, TWO, 1)
        self.check_no_named(((1, ("a",)), (2, ("b",))), 0, TWO, 1, (LAST_COME,))
        self.check_no_named(((2, ("a",)), (3, ("b",))), 0, TWO, 1, (ROUND_ROBIN, LAST_COME))

    def test_jobs_that_have_not_arrived(self):
        self.check_no_named(((5, ("b",)),), 0, GAP, rules=RULES)
        self.check_no_named(((2, ("a",)), (5, ("b",))), 1, GAP, rules=RULES)
        self.check_no_named(((2, ("a",)), (4, ("b",)), (6, ("b",))), 1, GAP, rules=RULES)
        jobs = TWO + (("c", ("after", 2), 0),)
        self.check_no_named(((1, ("a",)), (2, ("b", "c"))), 1, jobs, rules=RULES)
        self.check_no_named(((1, ("a",)), (2, ("c",))), 1, jobs, rules=RULES)

    def test_unit_far_away(self):
        # A job that is not there is not waited for, whatever runs until then.
        for rule in RULES:
            self.check_no_named(((FAR, ("x",)),), 0, TWO, 1, (rule,))
            self.check_no_named(((FAR, ("a", "x")),), 0, TWO, 1, (rule,))
            self.check_no_named(((1, ("a", "b")), (FAR, ("a",))), 1, TWO, 2, (rule,))
            self.check_no_named(((1, ("a",)), (FAR, ("a",))), 1, TWO, 2, (rule,))
            self.check_no_named(((FAR, ("a", 0)),), 0, TWO, 1, (rule,))
            self.check_no_named(((1, ("a",)), (FAR, ("b",))), 1, (TWO[0], ("b", ("at", FAR), 0)), 1, (rule,))

    def test_some_jobs_have_not_finished(self):
        for many in range(5):
            self.check_no_named(NAMED[:many], many)
        self.check_no_named((), 0, TWO, rules=RULES)
        self.check_no_named(((2, ("a",)),), 1, GAP, rules=RULES)
        self.check_no_named(((2, ("a", "b")),), 1, TWO + (("c", ("after", 2), 0),), rules=RULES)

    def test_pair_behind_the_last_finish(self):
        self.check_no_named(NAMED + ((11, ("a",)),), 5)
        self.check_no_named(((1, ("a",)),), 0, (), rules=RULES)

    def test_first_of_two_faults(self):
        for first, second in product(range(5), range(5)):
            if first < second:
                for wrong, other in product((None, (1, ("x",)), (0, ("a",))), ((9, (True,)), (1, ("a",)), (9, ("x",)))):
                    self.check_no_named(with_item(with_item(NAMED, second, other), first, wrong), first)

    def test_a_name_that_does_not_run_goes_before_a_wrong_form_behind_it(self):
        self.check_no_named(((1, ("d",)), None), 0)
        self.check_no_named(((1, ("d",)), (0, ())), 0)
        self.check_no_named(((1, ("x",)), (1, ("x", "x"))), 0)

    def test_no_other_error_than_no_named(self):
        for odd in ODD_VALUES:
            self.check_no_named(odd, 0)
            self.check_no_named(((1, ("a",)), odd), 1)
            self.check_no_named(((1, ("a",)), (odd, ("x",))), 1)
            self.check_no_named(((1, ("a",)), (2, odd)), 1)
            self.check_no_named(((1, ("a",)), (2, (odd,))), 1)
            self.check_no_named(((1, ("a",)), (2, ("b", odd))), 1)

    def test_valid_calls_behind_an_error(self):
        self.check_no_named(NAMED[:3], 3)
        self.check_same(lengths_from_names(EIGHT, NAMED, processors=3), (3, 2, 7, 1, 4, 4, 3, 2))

    def test_changes_by_chance(self):
        """Named finishes with a change by chance: right ones are told from wrong ones by a run."""
        random = Random(42)
        wrong = 0
        for jobs, lengths, rule, processors in cases(42, 2500):
            named = names_from(history_of(jobs, lengths, rule, processors))
            if not named:
                continue
            place = random.randrange(len(named))
            unit, names = named[place]
            unit = random.choice((unit, unit, unit + 1, random.randint(1, 12)))
            others = tuple(random.sample("abcdefghijkl", random.randint(1, 2)))
            names = random.choice((names, names[:1], names + others[:1], others, (random.choice(jobs)[0],)))
            changed = random.choice((with_item(named, place, (unit, names)), named[:place],
                                     named + ((unit + 9, names),)))
            expected, found = named_fault(jobs, changed, rule, processors)
            more = {"rule": rule, "processors": processors}
            if expected is None:
                self.check_same(lengths_from_names(jobs, changed, **more), found)
            else:
                wrong += 1
                self.check_fault(NoNamed, "place", expected, lengths_from_names, jobs, changed, **more)
        self.assertTrue(1000 < wrong < 2200, wrong)


class FittingTest(Checks):

    def test_by_hand(self):
        rules = (FIRST_COME, ROUND_ROBIN, LAST_COME, FIRST_COME)
        self.check_same(fitting(TWO, ((2, ("a",)), (3, ("b",))), rules), (0, 3))
        self.check_same(fitting(TWO, ((3, ("a",)), (4, ("b",))), rules), (0, 1, 3))
        self.check_same(fitting(TWO, ((2, ("b",)), (3, ("a",))), rules), (1, 2))
        self.check_same(fitting(TWO, ((1, ("b",)), (3, ("a",))), rules), (2,))
        self.check_same(fitting(TWO, ((1, ("b",)), (2, ("b",))), rules), ())
        self.check_same(fitting((), (), rules), (0, 1, 2, 3))
        self.check_same(fitting(TWO, ((1, ("a",)), (2, ("b",))), ()), ())

    def test_names_in_any_order(self):
        rules = (FIRST_COME, LAST_COME, ROUND_ROBIN)
        for names in (("a", "b"), ("b", "a")):
            self.check_same(fitting(TWO, ((3, names),), rules, processors=2), (0, 1, 2))

    def test_one_processor_by_default(self):
        named = ((1, ("b",)), (2, ("a",)))
        rules = (FIRST_COME, LAST_COME)
        self.check_same(fitting(TWO, named, rules), (1,))
        self.check_same(fitting(TWO, named, rules, processors=1), (1,))
        self.check_same(fitting(TWO, named, rules, processors=2), (0, 1))

    def test_wrong_named_finishes_raise_nothing(self):
        for odd in NOT_A_TUPLE + ((None,), ((1, ("x",)),), ((0, ("a",)),), ((1, ("a", "a")),), ((1, ()),), ()):
            self.check_same(fitting(TWO, odd, RULES, processors=2), ())

    def test_wrong_jobs_and_rules(self):
        named = ((1, ("a",)), (2, ("b",)))
        self.check_order(fitting, {"jobs": TWO, "named": named, "rules": RULES[:3]}, (
            ("jobs", WRONG, NoJobs), ("rules", (FIRST_COME, NO_BOOST, None), NoRule)))
        for named in (((1, ("a",)), (2, ("b",))), None, ((1, ("b",)),)):
            for place in range(4):
                for wrong, fault in ((NO_BOOST, 1), (None, 0), (((("queue", 1), ("queue", 0)), 0), 1), ([], 0)):
                    rules = RULES[:place] + (wrong,) + RULES[:2]
                    self.check_fault(NoRule, "place", fault, fitting, TWO, named, rules)
                    self.check_fault(NoRule, "place", fault, fitting, TWO, named, rules + (((), None),), processors=2)
                    self.check_fault(NoJobs, "place", 0, fitting, None, named, rules)
        for odd in ODD_VALUES:
            self.check_fault(NoRule, "place", 0, fitting, (), (), (odd,))
            self.check_fault(NoRule, "place", 0, fitting, (), (), (FIRST_COME, odd))
            if odd != ():
                self.check_fault(NoJobs, "place", 0, fitting, odd, (), (odd,))

    def test_large_numbers(self):
        jobs = (("a", ("at", FAR), 0), ("b", ("at", FAR), 0))
        rules = (FIRST_COME, ROUND_ROBIN, ((("stack", FAR),), FAR))
        self.check_same(fitting(jobs, ((FAR + 2, ("b",)), (FAR + 3, ("a",))), rules), (1, 2))

    def test_twelve_rules_against_the_reference(self):
        random = Random(43)
        some = 0
        for _ in range(400):
            jobs = some_jobs(random, 5)
            rules = tuple(some_rule(random) for _ in range(12))
            processors = random.choice((1, 2, 3))
            lengths = tuple(random.randint(1, 5) for _ in jobs)
            named = names_from(history_of(jobs, lengths, random.choice(rules), processors))
            named = mixed_up(named, random)
            if named and random.random() < 0.3:
                named = with_item(named, 0, (named[0][0], (random.choice(jobs)[0],)))
            expected = [k for k, rule in enumerate(rules) if named_fault(jobs, named, rule, processors)[0] is None]
            self.check_same(fitting(jobs, named, rules, processors=processors), tuple(expected))
            some += 0 < len(expected) < 12
        self.assertGreater(some, 40)

    def test_each_list_of_lengths(self):
        """Under each rule the named finishes of a list give the list, and only they."""
        for rule, processors in product(RULES, (1, 2)):
            found = {}
            for lengths in all_lengths(3, 4):
                named = names_of(THREE, lengths, rule=rule, processors=processors)
                self.assertNotIn(named, found)
                found[named] = lengths
                self.assertEqual(lengths_from_names(THREE, named, rule=rule, processors=processors), lengths)
                self.assertEqual(fitting(THREE, named, (rule,), processors=processors), (0,))


if __name__ == "__main__":
    unittest.main()
