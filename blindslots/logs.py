"""Logs: how many jobs finish in which unit, without names."""

from math import comb

from blindslots.errors import NoLog
from blindslots.jobs import check_jobs, count_arrived
from blindslots.kinds import is_integer, is_tuple_of
from blindslots.stretches import joined


def presence(jobs, log):
    """Return the numbers of present jobs up to the last unit of the log, as stretches."""
    check_jobs(jobs)
    check_log(log)
    check_present(jobs, log)
    if not log:
        return ()
    last = log[-1][0]
    # Only at these moments the number can change.
    moments = [job[1][1] for job in jobs if job[1][0] == "at"] + [unit for unit, _ in log]
    starts = sorted(set([0] + [moment for moment in moments if moment < last]))
    ends = starts[1:] + [last]
    return joined([(start + 1, end, present_by(jobs, log, start)) for start, end in zip(starts, ends)])


def first_fault(jobs, log, *, processors=1):
    """Return None if the log is possible, otherwise its certificate."""
    check_jobs(jobs)
    check_log(log)
    finished = 0
    for unit, finishes in log:
        running = count_running(jobs, unit, finished, processors)
        if finishes > running:
            return ("crowded", unit, running)
        finished += finishes
    return None if finished == len(jobs) else ("unfinished", len(jobs) - finished)


def ways(jobs, log, *, processors=1):
    """Return how many length lists have this log."""
    if first_fault(jobs, log, processors=processors) is not None:
        return 0
    many = 1
    for running, finishes in choices(jobs, log, processors):
        many *= comb(running, finishes)
    return many


def choices(jobs, log, processors):
    """Return the pairs (running, finishes) of the units of a possible log."""
    pairs = []
    finished = 0
    for unit, finishes in log:
        pairs.append((count_running(jobs, unit, finished, processors), finishes))
        finished += finishes
    return pairs


def check_log(log):
    """Raise NoLog with the place of the first pair that is not of the form of a log."""
    if not isinstance(log, tuple):
        raise NoLog(0)
    before = 0
    for place, pair in enumerate(log):
        if not is_tuple_of(pair, 2) or not is_integer(pair[0], before + 1) or not is_integer(pair[1], 1):
            raise NoLog(place)
        before = pair[0]


def check_present(jobs, log):
    """Raise NoLog with the place of the first pair with more finishes than present jobs."""
    finished = 0
    for place, (unit, finishes) in enumerate(log):
        if finishes > count_present(jobs, unit - 1, finished):
            raise NoLog(place)
        finished += finishes


def present_by(jobs, log, moment):
    """Return the number of present jobs at a moment of the log."""
    return count_present(jobs, moment, sum([finishes for unit, finishes in log if unit <= moment]))


def count_present(jobs, moment, finished):
    """Return the number of present jobs if so many have finished by this moment."""
    return count_arrived(jobs, moment, finished) - finished


def count_running(jobs, unit, finished, processors):
    """Return the number of running jobs of a unit if so many have finished before it."""
    return min(count_present(jobs, unit - 1, finished), processors)
