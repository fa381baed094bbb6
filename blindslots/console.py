"""A console: lines that say what runs, and lines that ask how."""

from blindslots.errors import NoLine
from blindslots.logs import ways
from blindslots.marks import marks_of, number_of, translate
from blindslots.rules import FIRST_COME
from blindslots.runs import log_of, run
from blindslots.texts import read_jobs, read_number, read_rule, show_jobs, show_rule

MOST_PROCESSORS = 8


def joined_words(words):
    """Return the line of these words and numbers."""
    return " ".join([str(word) for word in words])


def lengths_line(lengths):
    """Return the line that says these lengths."""
    return joined_words(("lengths",) + lengths)


def show_lines(jobs, lengths, rule, processors):
    """Return the lines of all that a console keeps."""
    lines = show_jobs(jobs).split("\n") if jobs else []
    return lines + show_rule(rule).split("\n") + [f"processors {processors}", lengths_line(lengths)]


def run_lines(jobs, lengths, rule, processors):
    """Return the lines of the run."""
    stretches = run(jobs, lengths, rule=rule, processors=processors)
    return [joined_words((first, last) + names) for first, last, names in stretches]


def log_lines(jobs, lengths, rule, processors):
    """Return the lines of the log of the run."""
    return [joined_words(pair) for pair in log_of(jobs, lengths, rule=rule, processors=processors)]


def marks_lines(jobs, lengths, rule, processors):
    """Return the lines of the marks of the run."""
    marks = marks_of(jobs, lengths, rule=rule, processors=processors)
    return [joined_words((unit,) + places) for unit, places in marks]


def ways_lines(jobs, lengths, rule, processors):
    """Return the line of the ways of the log of the run."""
    log = log_of(jobs, lengths, rule=rule, processors=processors)
    return [str(ways(jobs, log, processors=processors))]


def number_lines(jobs, lengths, rule, processors):
    """Return the line of the number of the lengths."""
    return [str(number_of(jobs, lengths, rule=rule, processors=processors))]


ANSWERS = {
    "show": show_lines, "run": run_lines, "log": log_lines, "marks": marks_lines, "ways": ways_lines,
    "number": number_lines,
}


class Console:
    """Jobs, a rule, processors and lengths, as lines say them."""

    def __init__(self):
        self._jobs = ()
        self._rule = FIRST_COME
        self._processors = 1
        self._lengths = ()

    def ask(self, line):
        """Obey one line and return the lines of the answer, a list."""
        if "\n" in line:
            raise NoLine()
        word, space, text = line.partition(" ")
        if word in ("jobs", "rule", "to") and space:
            return self._take_text(word, text.replace(";", "\n"))
        if word in ("processors", "lengths"):
            return self._take_numbers(word, read_numbers(line))
        if line not in ANSWERS:
            raise NoLine()
        answer = ANSWERS[line]
        return answer(self._jobs, self._lengths, self._rule, self._processors)

    def _take_text(self, word, text):
        """Obey a line that ends with a written form."""
        if word == "to":
            return [self._translation(read_rule(text))]
        if word == "rule":
            self._rule = read_rule(text)
        else:
            self._jobs = read_jobs(text)
            self._lengths = (1,) * len(self._jobs)
        return []

    def _translation(self, other):
        """Return the line of the lengths that the other rule gives the same marks."""
        lengths = translate(
            self._jobs, self._lengths, rule=self._rule, other=other, processors=self._processors)
        return lengths_line(lengths)

    def _take_numbers(self, word, numbers):
        """Obey a line that consists of a word and numbers."""
        if word == "processors":
            if len(numbers) != 1 or not 1 <= numbers[0] <= MOST_PROCESSORS:
                raise NoLine()
            self._processors = numbers[0]
        else:
            if len(numbers) != len(self._jobs) or 0 in numbers:
                raise NoLine()
            self._lengths = numbers
        return []


def read_numbers(line):
    """Return the numbers behind the first word of the line, a tuple."""
    numbers = tuple([read_number(word) for word in line.split(" ")[1:]])
    if None in numbers:
        raise NoLine()
    return numbers
