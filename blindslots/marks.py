"""Marks: which of the running jobs finish, by their places, and what they tell of lengths."""

from itertools import combinations
from math import comb

from blindslots.courses import checked_course, course_by_lengths, course_by_marks, lengths_in
from blindslots.errors import NoMarks, NoNumber
from blindslots.jobs import check_jobs
from blindslots.kinds import is_integer, is_tuple_of
from blindslots.lengths import check_lengths
from blindslots.logs import check_log, choices, count_running, ways
from blindslots.rules import FIRST_COME, check_rule
from blindslots.stretches import first_difference


def marks_of(jobs, lengths, *, rule=FIRST_COME, processors=1):
    """Return the marks of the run."""
    return marks_in(checked_course(jobs, lengths, rule, processors))


def lengths_of(jobs, marks, *, rule=FIRST_COME, processors=1):
    """Return the length list that has these marks."""
    check_jobs(jobs)
    check_rule(rule)
    check_marks(jobs, marks, processors)
    return marks_to_lengths(jobs, marks, rule, processors)


def nth_lengths(jobs, log, number, *, rule=FIRST_COME, processors=1):
    """Return the length list with this number among those of the log."""
    check_jobs(jobs)
    check_rule(rule)
    check_log(log)
    if not is_integer(number, 0) or number >= ways(jobs, log, processors=processors):
        raise NoNumber(number)
    places = []
    # The first unit is compared first, so it counts most: take the places from the last one on.
    for running, finishes in reversed(choices(jobs, log, processors)):
        number, choice = divmod(number, comb(running, finishes))
        places.append(all_places(running, finishes)[choice])
    marks = list(zip([unit for unit, _ in log], places[::-1]))
    return marks_to_lengths(jobs, marks, rule, processors)


def number_of(jobs, lengths, *, rule=FIRST_COME, processors=1):
    """Return the number of the length list among those of its log."""
    course = checked_course(jobs, lengths, rule, processors)
    number = 0
    for _, running, leaving in course.board.finishes:
        among = all_places(len(running), len(leaving))
        number = number * len(among) + among.index(places_of(running, leaving))
    return number


def translate(jobs, lengths, *, rule, other, processors=1):
    """Return the length list that has, under the other rule, the marks of this one."""
    check_jobs(jobs)
    check_rule(rule)
    check_rule(other)
    check_lengths(lengths, len(jobs))
    marks = marks_in(course_by_lengths(jobs, lengths, rule, processors))
    return marks_to_lengths(jobs, marks, other, processors)


def cycle(jobs, lengths, *, rule, other, processors=1):
    """Return the length lists up to the return of repeated translation to the first one."""
    found = [lengths]
    following = translate(jobs, lengths, rule=rule, other=other, processors=processors)
    while following != lengths:
        found.append(following)
        following = translate(jobs, following, rule=rule, other=other, processors=processors)
    return tuple(found)


def parting(jobs, marks, *, rule, other, processors=1):
    """Return the first unit in which the two rules part on these marks, or None."""
    check_jobs(jobs)
    check_rule(rule)
    check_rule(other)
    # How many jobs run does not depend on the rule: right marks are right under the other one, too.
    check_marks(jobs, marks, processors)
    ours = course_by_marks(jobs, marks, rule, processors)
    theirs = course_by_marks(jobs, marks, other, processors)
    return first_difference(ours.stretches(), theirs.stretches())


def marks_in(course):
    """Return the marks of a whole course."""
    return tuple([(unit, places_of(running, leaving)) for unit, running, leaving in course.board.finishes])


def marks_to_lengths(jobs, marks, rule, processors):
    """Return the lengths of right marks."""
    return lengths_in(jobs, course_by_marks(jobs, marks, rule, processors))


def places_of(running, leaving):
    """Return the places of the leaving jobs among the running ones."""
    return tuple([place for place, name in enumerate(running) if name in leaving])


def all_places(running, finishes):
    """Return all tuples of places of so many finishes among so many running jobs, in order."""
    return list(combinations(range(running), finishes))


def check_marks(jobs, marks, processors):
    """Raise NoMarks with the place of the first fault of the marks."""
    if not isinstance(marks, tuple):
        raise NoMarks(0)
    before = finished = 0
    for place, pair in enumerate(marks):
        if not is_mark(pair, before) or pair[1][-1] >= count_running(jobs, pair[0], finished, processors):
            raise NoMarks(place)
        before = pair[0]
        finished += len(pair[1])
    if finished < len(jobs):
        raise NoMarks(len(marks))


def is_mark(pair, before):
    """Tell whether the value has the form of a mark in a unit behind the one before."""
    if not is_tuple_of(pair, 2) or not is_integer(pair[0], before + 1):
        return False
    places = pair[1]
    return isinstance(places, tuple) and len(places) > 0 and are_ascending(places)


def are_ascending(places):
    """Tell whether the values are ascending integers from 0 on."""
    least = 0
    for place in places:
        if not is_integer(place, least):
            return False
        least = place + 1
    return True
