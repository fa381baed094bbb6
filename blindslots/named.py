"""Named finishes: which jobs finish in which unit, by their names."""

from blindslots.courses import Course, checked_course, lengths_in
from blindslots.errors import NoNamed
from blindslots.jobs import check_jobs
from blindslots.kinds import is_integer, is_tuple_of
from blindslots.rules import FIRST_COME, check_rule


def names_of(jobs, lengths, *, rule=FIRST_COME, processors=1):
    """Return the named finishes of the run."""
    course = checked_course(jobs, lengths, rule, processors)
    return tuple([(unit, leaving) for unit, _, leaving in course.board.finishes])


def lengths_from_names(jobs, named, *, rule=FIRST_COME, processors=1):
    """Return the length list that has these named finishes."""
    check_jobs(jobs)
    check_rule(rule)
    return lengths_in(jobs, course_by_names(jobs, named, rule, processors))


def fitting(jobs, named, rules, *, processors=1):
    """Return the indexes of the rules that fit the named finishes, in ascending order."""
    check_jobs(jobs)
    for rule in rules:
        check_rule(rule)
    return tuple([index for index, rule in enumerate(rules) if fits(jobs, named, rule, processors)])


def fits(jobs, named, rule, processors):
    """Tell whether the named finishes are right under the rule."""
    try:
        course_by_names(jobs, named, rule, processors)
    except NoNamed:
        return False
    return True


def course_by_names(jobs, named, rule, processors):
    """Return the whole course with these named finishes; raise NoNamed if they are not right."""
    if not isinstance(named, tuple):
        raise NoNamed(0)
    course = Course(jobs, rule, processors)
    for place, pair in enumerate(named):
        # Asked first, so that nothing runs up to a unit far away for a job that is not there.
        if not is_named(pair, course.board.now) or not are_left(jobs, pair[1], course.board):
            raise NoNamed(place)
        unit, names = pair
        course.go_to(unit - 1)
        if not are_among(names, course.board.running()):
            raise NoNamed(place)
        course.go_on(1, names)
    if course.board.many_finished() < len(jobs):
        raise NoNamed(len(named))
    return course


def is_named(pair, before):
    """Tell whether the value has the form of named finishes in a unit behind the one before."""
    if not is_tuple_of(pair, 2) or not is_integer(pair[0], before + 1):
        return False
    names = pair[1]
    return isinstance(names, tuple) and len(names) > 0 and are_different_strings(names)


def are_different_strings(names):
    """Tell whether the values are strings, no two of them equal."""
    return all([isinstance(name, str) and name not in names[:k] for k, name in enumerate(names)])


def are_left(jobs, names, board):
    """Tell whether all these are names of jobs that have not finished."""
    finished = board.lengths()
    return are_among(names, [job[0] for job in jobs if job[0] not in finished])


def are_among(names, others):
    """Tell whether each of the names is among the others."""
    return all([name in others for name in names])
