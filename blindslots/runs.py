"""Runs: given jobs with given lengths under a rule."""

from blindslots.courses import checked_course, course_by_lengths
from blindslots.errors import NoName
from blindslots.lengths import check_lengths
from blindslots.rules import FIRST_COME
from blindslots.stretches import first_difference, joined


def run(jobs, lengths, *, rule=FIRST_COME, processors=1):
    """Return the run, a tuple of stretches (first, last, names)."""
    return checked_course(jobs, lengths, rule, processors).stretches()


def finish_units(jobs, lengths, *, rule=FIRST_COME, processors=1):
    """Return the units in which the jobs finish, in the order of the jobs."""
    course = checked_course(jobs, lengths, rule, processors)
    units = {name: unit for unit, _, leaving in course.board.finishes for name in leaving}
    return tuple([units[job[0]] for job in jobs])


def log_of(jobs, lengths, *, rule=FIRST_COME, processors=1):
    """Return the log of the run."""
    return checked_course(jobs, lengths, rule, processors).board.log()


def units_of(jobs, lengths, name, *, rule=FIRST_COME, processors=1):
    """Return the units in which this job runs, a tuple of stretches (first, last)."""
    course = checked_course(jobs, lengths, rule, processors)
    if name not in [job[0] for job in jobs]:
        raise NoName(name)
    stretches = joined([(first, last, name in names) for first, last, names in course.stretches()])
    return tuple([(first, last) for first, last, inside in stretches if inside])


def first_split(jobs, lengths, others, *, rule=FIRST_COME, processors=1):
    """Return the first unit in which the runs of both length lists differ, or None."""
    ours = checked_course(jobs, lengths, rule, processors)
    check_lengths(others, len(jobs))
    theirs = course_by_lengths(jobs, others, rule, processors)
    return first_difference(ours.stretches(), theirs.stretches())
