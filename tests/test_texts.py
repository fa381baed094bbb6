"""Points 26 and 27: the text forms of jobs and rules."""

import unittest
from itertools import product

from blindslots.errors import NoJobs, NoRule, NoText
from blindslots.rules import FIRST_COME, LAST_COME, ROUND_ROBIN
from blindslots.texts import read_jobs, read_rule, show_jobs, show_rule
from tests.checks import Checks

LONGEST = "9" * 31
# Words that are no number at all, wherever a number stands.
NO_NUMBERS = (
    "", "+1", "-1", "+0", "-0", "00", "01", "007", "0" * 31, "0" + LONGEST, "1" * 32, "1" + "0" * 31, "1" * 40,
    "1.0", "1.", ".1", "1_0", "1e3", "0x1", "0b1", "1a", "a1", "x", "one", "None", "1,", "1;", "1 1", "1 ", " 1",
    "(1)", "/", ":", "1/", "1:",
)
NO_NAMES = ("", "abcdefghi", "A", "aB", "a1", "1", "a-b", "a_b", "a.", "`", "{", "a,")


class JobsTextTest(Checks):

    def check_form(self, jobs, text):
        """The text is the written form of the jobs."""
        self.check_same(show_jobs(jobs), text)
        self.check_same(read_jobs(text), jobs)

    def check_no_line(self, line):
        """The line is not of the form, alone and at each place of other lines."""
        self.check_no_text(line, 0)
        others = ["x at 0", "y after 1 entry 2", "z at 12"]
        for row in range(4):
            self.check_no_text("\n".join(others[:row] + [line] + others[row:]), row)

    def check_no_text(self, text, row):
        self.check_fault(NoText, "row", row, read_jobs, text)

    def test_functions_stand_in_their_file(self):
        for function in (show_jobs, show_rule, read_jobs, read_rule):
            self.assertEqual(function.__module__, "blindslots.texts")

    def test_example(self):
        self.check_form((("a", ("at", 0), 0), ("b", ("after", 1), 2)), "a at 0\nb after 1 entry 2")

    def test_arguments_by_name(self):
        self.check_same(show_jobs(jobs=(("a", ("at", 5), 0),)), "a at 5")
        self.check_same(read_jobs(text="a at 5"), (("a", ("at", 5), 0),))
        self.check_fault(NoText, "row", 0, read_jobs, text="a")

    def test_no_jobs(self):
        self.check_form((), "")

    def test_one_job(self):
        self.check_form((("a", ("at", 0), 0),), "a at 0")
        self.check_form((("abcdefgh", ("at", 10), 9),), "abcdefgh at 10 entry 9")
        self.check_form((("z", ("at", 10 ** 30), 1),), "z at 1" + "0" * 30 + " entry 1")
        self.check_form((("a", ("at", 10 ** 31 - 1), 0),), "a at " + LONGEST)

    def test_words_of_the_form_as_names(self):
        jobs = (("at", ("at", 1), 0), ("after", ("after", 1), 1), ("entry", ("at", 0), 2))
        self.check_form(jobs, "at at 1\nafter after 1 entry 1\nentry at 0 entry 2")

    def test_each_entry(self):
        for entry in range(1, 10):
            self.check_form((("a", ("at", 3), entry),), f"a at 3 entry {entry}")
            jobs = (("b", ("after", 1), entry), ("a", ("at", 0), 0))
            self.check_form(jobs, f"b after 1 entry {entry}\na at 0")

    def test_each_pair_of_jobs(self):
        arrivals = (("at", 0), ("at", 9), ("at", 10), ("at", 10 ** 30), ("after", 1), ("after", 2))
        rows = list(product(arrivals, (0, 1, 9)))
        for (one, entry), (other, other_entry) in product(rows, rows):
            jobs = (("a", ("at", 1), 0), ("b", ("at", 2), 0), ("c", one, entry), ("d", other, other_entry))
            written = [f"{name} {kind} {number}" + (f" entry {last}" if last else "")
                       for name, (kind, number), last in jobs]
            self.check_form(jobs, "\n".join(written))

    def test_twelve_jobs(self):
        jobs = tuple(("job" + "abcdefghijkl"[k], ("after", k) if k else ("at", 0), k % 10) for k in range(12))
        text = show_jobs(jobs)
        self.assertEqual(len(text.split("\n")), 12)
        self.check_form(jobs, text)
        self.assertEqual(text.split("\n")[0], "joba at 0")
        self.assertEqual(text.split("\n")[10], "jobk after 10")
        self.assertEqual(text.split("\n")[11], "jobl after 11 entry 1")

    def test_show_jobs_of_invalid_jobs(self):
        valid = ("a", ("at", 0), 0)
        for jobs, place in (
            (None, 0), ([], 0), ([valid], 0), ("", 0), ("a at 0", 0), ((valid, valid), 1), ((valid, None), 1),
            ((("a", ("at", True), 0),), 0), ((valid, ("b", ("at", 0), 10)), 1),
            ((valid, ("b", ("after", 2), 0)), 1), ((("b", ("after", 2), 0), valid, ("", ("at", 0), 0)), 2),
        ):
            self.check_fault(NoJobs, "place", place, show_jobs, jobs)

    def test_invalid_number(self):
        for word in NO_NUMBERS:
            self.check_no_line(f"a at {word}")
            self.check_no_line(f"a after {word}")
            self.check_no_line(f"a at {word} entry 1")
            self.check_no_line(f"a at 0 entry {word}")
            self.check_no_line(f"a after 1 entry {word}")

    def test_number_below_or_above_its_limits(self):
        self.check_no_line("a after 0")
        self.check_no_line("a after 0 entry 1")
        for word in ("0", "10", "11", "99", LONGEST):
            self.check_no_line(f"a at 0 entry {word}")
            self.check_no_line(f"a after 1 entry {word}")

    def test_invalid_name(self):
        for name in NO_NAMES:
            self.check_no_line(f"{name} at 0")
            self.check_no_line(f"{name} after 1 entry 1")

    def test_spaces(self):
        for line in (
            "a  at 0", "a at  0", " a at 0", "a at 0 ", "  a at 0", "a at 0  ", "a at 0  entry 1",
            "a at 0 entry  1", "a at 0 entry 1 ", " a at 0 entry 1", "aat 0", "a at0", "aat0", "a at 0entry 1",
            "a at 0 entry1", " ", "  ",
        ):
            self.check_no_line(line)

    def test_words_missing_or_too_many(self):
        for line in (
            "a", "at", "a at", "a after", "at 0", "a 0", "0", "a entry 1", "a at entry 1", "a at 0 entry",
            "a at 0 1", "a at 0 0", "a at 0 entry 1 2", "a at 0 entry 1 entry", "a at 0 entry 1 entry 1",
            "a at 0 at 0", "a at 0 after 1", "a b at 0", "a at 0;b at 0", "a at 0,",
        ):
            self.check_no_line(line)

    def test_other_words(self):
        for line in (
            "a At 0", "a AT 0", "a by 0", "a before 1", "a After 1", "a on 1", "a queue 1", "a at 0 Entry 1",
            "a at 0 entri 1", "a at 0 level 1", "a at 0 at 1", "a entry 1 at 0", "at 0 a", "0 at a",
        ):
            self.check_no_line(line)

    def test_empty_lines(self):
        self.check_no_text("\n", 0)
        self.check_no_text("\na at 0", 0)
        self.check_no_text("a at 0\n", 1)
        self.check_no_text("a at 0\n\nb at 0", 1)
        self.check_no_text("a at 0\nb at 0\n", 2)
        self.check_no_text("a at 0\n\n", 1)

    def test_first_of_two_wrong_lines(self):
        lines = ["a at 0", "b at 1", "c at 2", "d at 3"]
        for first in range(4):
            for second in range(first + 1, 4):
                wrong = [f"{line} x" if k in (first, second) else line for k, line in enumerate(lines)]
                self.check_no_text("\n".join(wrong), first)

    def test_no_text_goes_before_no_jobs(self):
        self.check_no_text("a at 0\na at 0\nb", 2)
        self.check_no_text("a at 0\na at 0\n", 2)
        self.check_no_text("a after 1\nb at 00", 1)
        self.check_no_text("a after 5\nb after 5\nb after 5\nc after 0", 3)

    def test_no_jobs_for_equal_names(self):
        self.check_fault(NoJobs, "place", 1, read_jobs, "a at 0\na at 0")
        self.check_fault(NoJobs, "place", 1, read_jobs, "a at 0\na after 1 entry 3")
        self.check_fault(NoJobs, "place", 3, read_jobs, "a at 0\nb at 0\nc at 0\nb at 1\na at 0")
        self.check_fault(NoJobs, "place", 2, read_jobs, "a after 9\nb at 0\nb at 0")

    def test_no_jobs_for_jobs_that_wait_forever(self):
        self.check_fault(NoJobs, "place", 0, read_jobs, "a after 1")
        self.check_fault(NoJobs, "place", 1, read_jobs, "a at 0\nb after 2")
        self.check_fault(NoJobs, "place", 1, read_jobs, "a at 0\nb after 3 entry 1\nc after 2")
        self.check_fault(NoJobs, "place", 0, read_jobs, f"a after {LONGEST}\nb at 0")

    def test_equal_calls_give_equal_results(self):
        for _ in range(3):
            self.check_form((("a", ("at", 4), 1),), "a at 4 entry 1")
            self.check_form((), "")
            self.check_no_text("a at 4 entry 0", 0)


class RuleTextTest(Checks):

    def check_form(self, rule, text):
        """The text is the written form of the rule."""
        self.check_same(show_rule(rule), text)
        self.check_same(read_rule(text), rule)

    def check_no_line(self, line):
        """The line is not of the form, alone and at each place of other lines."""
        self.check_no_text(line, 0)
        others = ["queue", "stack 2", "queue 30"]
        for row in range(4):
            self.check_no_text("\n".join(others[:row] + [line] + others[row:]), row)
        self.check_no_text(f"queue\n{line}\nboost 1", 1)

    def check_no_text(self, text, row):
        self.check_fault(NoText, "row", row, read_rule, text)

    def test_example(self):
        self.check_form(((("queue", 2), ("stack", None)), 9), "queue 2\nstack\nboost 9")

    def test_arguments_by_name(self):
        self.check_same(show_rule(rule=ROUND_ROBIN), "queue 1")
        self.check_same(read_rule(text="queue 1"), ROUND_ROBIN)
        self.check_fault(NoText, "row", 0, read_rule, text="")

    def test_named_rules(self):
        self.check_form(FIRST_COME, "queue")
        self.check_form(LAST_COME, "stack")
        self.check_form(ROUND_ROBIN, "queue 1")

    def test_each_rule_of_up_to_two_levels(self):
        counts = (None, 1, 9, 10, 10 ** 30, 10 ** 31 - 1)
        levels = list(product(("queue", "stack"), counts))
        stacks = [(level,) for level in levels] + list(product(levels, levels))
        for stack, boost in product(stacks, counts):
            written = [kind if quantum is None else f"{kind} {quantum}" for kind, quantum in stack]
            if boost is not None:
                written.append(f"boost {boost}")
            self.check_form((stack, boost), "\n".join(written))

    def test_up_to_six_levels(self):
        levels = (("queue", 1), ("stack", 2), ("queue", None), ("stack", None), ("queue", 50), ("stack", 600))
        lines = ["queue 1", "stack 2", "queue", "stack", "queue 50", "stack 600"]
        for many in range(1, 7):
            self.check_form((levels[:many], None), "\n".join(lines[:many]))
            self.check_form((levels[:many], 7), "\n".join(lines[:many] + ["boost 7"]))

    def test_longest_text(self):
        levels = (("queue", 10 ** 31 - 1),) * 6
        self.check_form((levels, 10 ** 31 - 1), "\n".join([f"queue {LONGEST}"] * 6 + [f"boost {LONGEST}"]))

    def test_show_rule_of_invalid_rules(self):
        level = ("queue", 1)
        for rule, place in (
            (None, 0), ([], 0), ("queue", 0), ((), 0), (((), None), 0), (((level,),), 0), (([level], None), 0),
            [((level,) * 7, None), 0], (((level, level, ("queue", 0)), None), 2), (((level, None), 0), 1),
            (((level,), 0), 1), (((level,) * 6, True), 6), (((("stack", True),), None), 0),
        ):
            self.check_fault(NoRule, "place", place, show_rule, rule)

    def test_empty_string_and_empty_lines(self):
        self.check_no_text("", 0)
        self.check_no_text("\n", 0)
        self.check_no_text("\nqueue", 0)
        self.check_no_text("queue\n", 1)
        self.check_no_text("queue\n\nstack", 1)
        self.check_no_text("queue\n\nboost 1", 1)
        self.check_no_text("queue\nboost 1\n", 2)
        self.check_no_text("boost 1\n", 0)

    def test_invalid_number(self):
        for word in (*NO_NUMBERS, "0"):
            self.check_no_line(f"queue {word}")
            self.check_no_line(f"stack {word}")
            self.check_no_line(f"boost {word}")

    def test_spaces(self):
        for line in (
            "queue ", " queue", "queue  1", "queue 1 ", " queue 1", "queue1", "stack  1", "stack ", " ", "  ",
            "boost  1", " boost 1", "boost 1 ", "boost1", "qu eue",
        ):
            self.check_no_line(line)

    def test_words_missing_or_too_many(self):
        for line in (
            "1", "queue 1 1", "queue 1 2", "stack 1 stack", "queue queue", "queue stack", "queue boost",
            "boost", "boost 1 1", "boost 1 queue", "boost queue", "boost boost 1", "queue boost 1", "queue;stack",
            "boost None",
        ):
            self.check_no_line(line)

    def test_other_words(self):
        for line in (
            "Queue", "QUEUE", "queues", "que", "Stack 1", "stac 1", "heap", "heap 1", "Boost 1", "boosts 1",
            "boos 1", "at 0", "a at 0", "level queue", "(queue)",
        ):
            self.check_no_line(line)

    def test_line_behind_a_boost(self):
        for line in ("queue", "stack 3", "boost 1", "boost 2", "", "x", " ", "boost 0", "boost"):
            self.check_no_text(f"queue\nboost 1\n{line}", 2)
            self.check_no_text(f"queue\nstack 2\nboost 5\n{line}\nqueue", 3)
            self.check_no_text(f"queue\nboost 1\n{line}\nboost 3", 2)
        six = "queue\n" * 6
        self.check_no_text(six + "boost 1\nqueue", 7)
        self.check_no_text(six + "boost 1\nboost 1", 7)

    def test_boost_as_the_first_line(self):
        for text in ("boost 1", "boost 1\nqueue", "boost 1\nboost 1", "boost 1\n\n", f"boost {LONGEST}\nx"):
            self.check_no_text(text, 0)

    def test_seventh_level(self):
        six = ["queue", "stack 1", "stack", "queue 5", "queue", "stack 2"]
        for line in ("queue", "stack 4", "x", "", "boost 0", "boost"):
            self.check_no_text("\n".join(six + [line]), 6)
            self.check_no_text("\n".join(six + [line, "boost 1"]), 6)
            self.check_no_text("\n".join(six + [line, "queue"]), 6)

    def test_first_of_two_wrong_lines(self):
        for first in range(7):
            for second in range(first + 1, 8):
                lines = ["queue 0" if k in (first, second) else "queue" for k in range(8)]
                self.check_no_text("\n".join(lines), min(first, 6))

    def test_equal_calls_give_equal_results(self):
        for _ in range(3):
            self.check_form(((("stack", 3),), 4), "stack 3\nboost 4")
            self.check_form(((("stack", 3),), None), "stack 3")
            self.check_no_text("stack 3\nboost 0", 1)


if __name__ == "__main__":
    unittest.main()
