"""Courses: given jobs on a board, up to the last finish."""

from blindslots.board import Board
from blindslots.jobs import check_jobs, has_arrived
from blindslots.lengths import check_lengths
from blindslots.rules import check_rule
from blindslots.stretches import joined


class Course:
    """A board that each job enters when it arrives, and the stretches that have run."""

    def __init__(self, jobs, rule, processors):
        self.board = Board(rule, processors)
        self.coming = list(jobs)
        self.pieces = []
        self.let_in()

    def let_in(self):
        """Let the jobs enter that arrive at the current moment, in the order of the list."""
        board = self.board
        finished = board.many_finished()
        arriving = [job for job in self.coming if has_arrived(job, board.now, finished)]
        self.coming = [job for job in self.coming if job not in arriving]
        for name, _, entry in arriving:
            board.enter(name, entry)

    def ends(self):
        """Return in how many units a quantum, the time up to a boost, or up to an arrival ends."""
        arrivals = [job[1] for job in self.coming]
        waits = [number - self.board.now for kind, number in arrivals if kind == "at"]
        return self.board.ends() + waits

    def go_on(self, units, finishing):
        """Run so many units with the same running jobs; these jobs finish at the end."""
        board = self.board
        self.pieces.append((board.now + 1, board.now + units, board.running()))
        board.end_units(units, finishing)
        self.let_in()

    def go_to(self, moment):
        """Run up to this moment; no job finishes on the way."""
        while self.board.now < moment:
            self.go_on(min(self.ends() + [moment - self.board.now]), ())

    def stretches(self):
        """Return the stretches so far, as long as possible."""
        return joined(self.pieces)


def checked_course(jobs, lengths, rule, processors):
    """Check the arguments and return the whole course in which the jobs have these lengths."""
    check_jobs(jobs)
    check_rule(rule)
    check_lengths(lengths, len(jobs))
    return course_by_lengths(jobs, lengths, rule, processors)


def course_by_lengths(jobs, lengths, rule, processors):
    """Return the whole course in which the jobs have these lengths."""
    course = Course(jobs, rule, processors)
    board = course.board
    needed = dict(zip([job[0] for job in jobs], lengths))
    while board.many_finished() < len(jobs):
        left = {name: needed[name] - board.ran[name] for name in board.running()}
        units = min(course.ends() + list(left.values()))
        course.go_on(units, [name for name in left if left[name] == units])
    return course


def course_by_marks(jobs, marks, rule, processors):
    """Return the whole course in which the jobs finish at these marks, which are right."""
    course = Course(jobs, rule, processors)
    for unit, places in marks:
        course.go_to(unit - 1)
        running = course.board.running()
        course.go_on(1, [running[place] for place in places])
    return course


def lengths_in(jobs, course):
    """Return the lengths that the jobs have in a whole course."""
    return tuple([course.board.ran[job[0]] for job in jobs])
