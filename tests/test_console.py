"""Points 11, 14, 15, 17, 18 and 26 to 28: the console."""

import unittest
from itertools import product
from random import Random

from blindslots.console import Console
from blindslots.errors import NoJobs, NoLine, NoText
from blindslots.logs import ways
from blindslots.marks import marks_of, number_of, translate
from blindslots.runs import log_of, run
from blindslots.texts import show_jobs, show_rule
from tests.checks import Checks
from tests.reference import FIRST_COME, RULES, cases, some_jobs, some_rule

FAR = 10 ** 30
LONGEST = "9" * 31
QUESTIONS = ("show", "run", "log", "marks", "ways", "number")
# Words that are no numbers, wherever a number stands.
NO_NUMBERS = ("", "-1", "+1", "00", "01", "007", "0" * 32, "1" * 32, "1" + LONGEST, "1.0", "1_0", "0x1", "x", "one",
              "1,", "1;", "None", "True", "/", ":")


def told(console, *lines):
    """The answers to these lines, one after the other."""
    return [console.ask(line) for line in lines]


def console_with(jobs, lengths, rule, processors):
    """A console that keeps these."""
    console = Console()
    for line in lines_of(jobs, lengths, rule, processors):
        if console.ask(line) != []:
            raise AssertionError(line)
    return console


def lines_of(jobs, lengths, rule, processors):
    """The lines that say these to a console."""
    return ("jobs " + show_jobs(jobs).replace("\n", ";"), lengths_line(lengths),
            "rule " + show_rule(rule).replace("\n", ";"), f"processors {processors}")


def lengths_line(lengths):
    return " ".join(["lengths", *map(str, lengths)])


def shown(jobs, lengths, rule, processors):
    """The answer to `show`."""
    lines = [show_jobs(jobs)] if jobs else []
    return "\n".join(lines + [show_rule(rule), f"processors {processors}", lengths_line(lengths)]).split("\n")


class ConsoleTest(Checks):

    def setUp(self):
        # Two running jobs and one that waits.
        self.console = Console()
        told(self.console, "jobs a at 0;b at 0 entry 2;c after 1", "lengths 3 2 4", "rule queue 2;stack;boost 5",
             "processors 2")

    def check_error(self, console, error, line, field=None, value=None):
        """The line raises exactly this error, and the console does not change."""
        before = console.ask("show")
        with self.assertRaises(error) as caught:
            console.ask(line)
        self.assertIs(type(caught.exception), error)
        if field:
            self.check_same(getattr(caught.exception, field), value)
        self.check_same(console.ask("show"), before)

    def check_no_line(self, *lines):
        for line in lines:
            self.check_error(self.console, NoLine, line)

    def test_example(self):
        console = Console()
        self.check_same(told(console, "jobs a at 0;b at 0", "lengths 2 2", "rule queue 1"), [[], [], []])
        self.check_same(console.ask("run") + console.ask("to queue"),
                        ["1 1 a", "2 2 b", "3 3 a", "4 4 b", "lengths 3 1"])

    def test_begin(self):
        console = Console()
        self.check_same(told(console, "show", "run", "log", "marks", "ways", "number", "to stack"),
                        [["queue", "processors 1", "lengths"], [], [], [], ["1"], ["0"], ["lengths"]])

    def test_jobs(self):
        console = Console()
        self.check_same(told(console, "jobs a at 0;b after 1 entry 3", "show"),
                        [[], ["a at 0", "b after 1 entry 3", "queue", "processors 1", "lengths 1 1"]])
        self.check_same(told(console, "jobs zz at 7", "show"), [[], ["zz at 7", "queue", "processors 1", "lengths 1"]])
        # The text may be empty: it writes no jobs.
        self.check_same(told(console, "jobs ", "show"), [[], ["queue", "processors 1", "lengths"]])
        self.check_same(told(console, f"jobs a at {LONGEST}", "show"),
                        [[], [f"a at {LONGEST}", "queue", "processors 1", "lengths 1"]])

    def test_jobs_set_all_lengths_to_1(self):
        self.check_same(told(self.console, "jobs a at 0;b at 0 entry 2;c after 1", "show")[1][-1:], ["lengths 1 1 1"])
        self.check_same(told(self.console, "lengths 5 6 7", "jobs x at 0", "show")[2], [
            "x at 0", "queue 2", "stack", "boost 5", "processors 2", "lengths 1"])

    def test_rule(self):
        for text in ("queue", "stack", "queue 1", "stack 7;queue", "queue;boost 3", "queue 1;" * 5 + "stack 2;boost 9",
                     f"queue {LONGEST};boost {LONGEST}"):
            self.check_same(told(self.console, "rule " + text, "show"), [
                [], ["a at 0", "b at 0 entry 2", "c after 1", *text.split(";"), "processors 2", "lengths 3 2 4"]])

    def test_processors(self):
        for many in range(1, 9):
            self.check_same(told(self.console, f"processors {many}", "show"), [[], [
                "a at 0", "b at 0 entry 2", "c after 1", "queue 2", "stack", "boost 5", f"processors {many}",
                "lengths 3 2 4"]])

    def test_lengths(self):
        for line in ("lengths 1 1 1", "lengths 10 200 30", "lengths 660 1 1339"):
            self.check_same(told(self.console, line, "show"), [[], [
                "a at 0", "b at 0 entry 2", "c after 1", "queue 2", "stack", "boost 5", "processors 2", line]])
        console = Console()
        self.check_same(told(console, "lengths", "show"), [[], ["queue", "processors 1", "lengths"]])

    def test_what_is_told_last_counts(self):
        self.check_same(told(self.console, "processors 3", "processors 1", "lengths 1 2 3", "lengths 2 2 2",
                             "rule stack", "rule queue 1", "show")[-1],
                        ["a at 0", "b at 0 entry 2", "c after 1", "queue 1", "processors 1", "lengths 2 2 2"])

    def test_answers_by_hand(self):
        console = Console()
        told(console, "jobs a at 0;b at 0;c at 1", "lengths 2 4 1", "rule stack", "processors 2")
        self.check_same(told(console, *QUESTIONS[1:]), [
            ["1 1 b a", "2 2 c b", "3 3 b a", "4 4 b"], ["2 1", "3 1", "4 1"], ["2 0", "3 1", "4 0"], ["4"], ["1"]])
        self.check_same(told(console, "to queue", "to stack"), [["lengths 2 4 1"], ["lengths 2 4 1"]])

    def test_idle_stretch(self):
        console = Console()
        told(console, "jobs a at 0;b at 5", "lengths 2 2")
        self.check_same(told(console, "run", "log", "marks"),
                        [["1 2 a", "3 5", "6 7 b"], ["2 1", "7 1"], ["2 0", "7 0"]])
        told(console, "jobs a at 3;b at 3;c at 3", "processors 3")
        self.check_same(told(console, "run", "log", "marks", "ways", "number"),
                        [["1 3", "4 4 a b c"], ["4 3"], ["4 0 1 2"], ["1"], ["0"]])

    def test_to_changes_nothing(self):
        before = told(self.console, *QUESTIONS)
        for rule in RULES:
            self.console.ask("to " + show_rule(rule).replace("\n", ";"))
            self.check_same(told(self.console, *QUESTIONS), before)

    def test_answers_are_those_of_the_functions(self):
        random = Random(70)
        for jobs, lengths, rule, processors in cases(70, 600, 8):
            console = console_with(jobs, lengths, rule, processors)
            more = {"rule": rule, "processors": processors}
            log = log_of(jobs, lengths, **more)
            self.check_same(console.ask("show"), shown(jobs, lengths, rule, processors))
            self.check_same(console.ask("run"), [
                " ".join(map(str, (first, last, *names))) for first, last, names in run(jobs, lengths, **more)])
            self.check_same(console.ask("log"), [f"{unit} {finishes}" for unit, finishes in log])
            self.check_same(console.ask("marks"), [
                " ".join(map(str, (unit, *places))) for unit, places in marks_of(jobs, lengths, **more)])
            self.check_same(console.ask("ways"), [str(ways(jobs, log, processors=processors))])
            self.check_same(console.ask("number"), [str(number_of(jobs, lengths, **more))])
            other = some_rule(random)
            found = translate(jobs, lengths, other=other, **more)
            self.check_same(console.ask("to " + show_rule(other).replace("\n", ";")), [lengths_line(found)])

    def test_lines_by_chance(self):
        """What a console shows is what it was told last, in any order."""
        random = Random(71)
        for _ in range(100):
            console = Console()
            kept = [(), (), FIRST_COME, 1]
            for _ in range(20):
                k = random.randrange(4)
                kept[k] = (some_jobs(random), tuple(random.randint(1, 50) for _ in kept[0]), some_rule(random),
                           random.randint(1, 8))[k]
                self.check_same(console.ask(lines_of(*kept)[k]), [])
                if k == 0:
                    kept[1] = (1,) * len(kept[0])
                self.check_same(console.ask("show"), shown(*kept))

    def test_two_thousand_units_and_large_numbers(self):
        jobs = tuple((name, ("at", FAR), 0) for name in "abcdefghijkl")
        lengths = (167,) * 11 + (163,)
        for rule in RULES[:5]:
            console = console_with(jobs, lengths, rule, 2)
            log = log_of(jobs, lengths, rule=rule, processors=2)
            self.check_same(console.ask("log"), [f"{unit} {finishes}" for unit, finishes in log])
            self.check_same(console.ask("show"), shown(jobs, lengths, rule, 2))

    def test_two_consoles(self):
        other = Console()
        self.check_same(other.ask("show"), ["queue", "processors 1", "lengths"])
        told(other, "jobs q at 4", "processors 7")
        self.check_same(self.console.ask("show"), [
            "a at 0", "b at 0 entry 2", "c after 1", "queue 2", "stack", "boost 5", "processors 2", "lengths 3 2 4"])
        self.check_same(Console().ask("show"), ["queue", "processors 1", "lengths"])

    def test_returned_list_may_be_changed(self):
        for line in (*QUESTIONS, "to stack", "processors 2"):
            before = self.console.ask(line)
            self.console.ask(line).append("x")
            self.console.ask(line).clear()
            self.check_same(self.console.ask(line), before)
        Console().ask("run").append("x")
        self.check_same(Console().ask("run"), [])

    def test_argument_by_name(self):
        self.check_same(Console().ask(line="ways"), ["1"])

    def test_line_of_another_form(self):
        self.check_no_line("", " ", "x", "help", "Run", "RUN", "runs", "ru", "shows", "job a at 0", "Jobs a at 0",
                           "TO queue", "length 1 1 1", "processor 1", "ways1", "0", "1", "lengths1 1 1",
                           "queue", "a at 0", ";", "jobs;a at 0", "rule;queue", "undo")

    def test_word_alone_or_with_more(self):
        self.check_no_line("jobs", "rule", "to", "processors")
        for word in QUESTIONS:
            self.check_no_line(word + " ", " " + word, word + " x", word + " 1", word + word, word + ";",
                               word + " " + word)

    def test_spaces(self):
        self.check_no_line(" jobs a at 0", " rule queue", " to queue", " processors 1", " lengths 1 1 1",
                           "processors  1", "processors 1 ", "processors ", "lengths  1 1 1", "lengths 1 1 1 ",
                           "lengths 1  1 1", "lengths ", "lengths  ")

    def test_processors_of_another_form(self):
        self.check_no_line("processors 0", "processors 9", "processors 10", "processors 1 1", "processors 1 2",
                           f"processors {LONGEST}", "processors 1;")
        for word in NO_NUMBERS:
            self.check_no_line("processors " + word, "processors 1" + " " + word)

    def test_lengths_of_another_form(self):
        self.check_no_line("lengths", "lengths 1", "lengths 1 1", "lengths 1 1 1 1", "lengths 0 1 1", "lengths 1 0 1",
                           "lengths 1 1 0", "lengths 0", "lengths 0 0 0 0", "lengths 1;1;1", "lengths 1,1,1")
        for word, place in product(NO_NUMBERS, range(3)):
            words = ["1", "1", "1"]
            words[place] = word
            self.check_no_line("lengths " + " ".join(words))
        console = Console()
        for line in ("lengths 1", "lengths 0", "lengths ", "lengths 1 1"):
            self.check_error(console, NoLine, line)

    def test_longest_numbers(self):
        # A length of 31 digits is of the form, one of 32 is not.
        self.check_same(told(self.console, f"lengths 1 {LONGEST} 1", "show")[1][-1:], [f"lengths 1 {LONGEST} 1"])
        self.check_no_line(f"lengths 1 1{LONGEST} 1")

    def test_newline_goes_before_all(self):
        self.check_no_line("\n", "run\n", "\nrun", "show\nshow", "jobs a at 0\nb at 0", "jobs \n", "rule queue\n",
                           "rule queue\nstack", "to queue 1\nqueue", "jobs x\n", "rule x\n", "to \n", "lengths 1 1 1\n",
                           "processors 1\n", "processors\n1", "lengths 1\n1 1", "jobs a at 0;\n;;", "x\n")

    def test_wrong_jobs(self):
        for text, row in (("a", 0), ("a at 0;", 1), (";a at 0", 0), ("a at 0;;b at 0", 1), ("a at 0;b", 1), (" ", 0),
                          ("a at 0 ", 0), (" a at 0", 0), ("a at 0;b at 0; c at 0", 2), ("a at 0;a at 0;A at 0", 2),
                          ("a at 00", 0), ("a after 0", 0), ("a at 0 entry 0", 0), ("a at 1" + LONGEST, 0), (";", 0),
                          ("a after 9;b", 1)):
            self.check_error(self.console, NoText, "jobs " + text, "row", row)
        for text, place in (("a at 0;a at 0", 1), ("a after 1", 0), ("a at 0;b at 1;c after 3", 2),
                            ("a after 2;b at 0;b at 1", 2)):
            self.check_error(self.console, NoJobs, "jobs " + text, "place", place)

    def test_wrong_rule(self):
        for text, row in (("", 0), (" ", 0), ("queue 0", 0), ("queue;", 1), (";queue", 0), ("boost 3", 0),
                          ("boost 3;queue", 0), ("queue;boost 0", 1), ("queue;boost 2;stack", 2),
                          ("queue;boost 2;boost 2", 2), ("heap", 0), ("queue 01", 0), ("queue ", 0), ("queue 1 1", 0),
                          ("queue;queue;queue;queue;queue;queue;queue", 6),
                          ("queue 1" + LONGEST, 0), ("stack  1", 0), ("queue 1;stack x;boost", 1)):
            self.check_error(self.console, NoText, "rule " + text, "row", row)
            self.check_error(self.console, NoText, "to " + text, "row", row)

    def test_error_changes_nothing(self):
        before = told(self.console, *QUESTIONS, "to queue")
        for line, error in (("jobs x at 0;x at 1", NoJobs), ("jobs x at 0;y", NoText), ("rule stack;", NoText),
                            ("lengths 9 9 0", NoLine), ("lengths 9 9", NoLine), ("processors 9", NoLine),
                            ("to", NoLine)):
            self.check_error(self.console, error, line)
            self.check_same(told(self.console, *QUESTIONS, "to queue"), before)

    def test_lines_behind_an_error(self):
        self.check_no_line("lengths 1")
        self.check_same(told(self.console, "lengths 1 2 3", "rule queue", "run"),
                        [[], [], ["1 1 a b", "2 2 b c", "3 4 c"]])


if __name__ == "__main__":
    unittest.main()
