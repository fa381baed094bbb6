"""Counts of length lists and of logs, which do not depend on a rule."""

from math import comb

from blindslots.errors import NoNumber
from blindslots.jobs import check_jobs
from blindslots.kinds import is_integer
from blindslots.logs import check_log, count_running, first_fault


def count_within(jobs, last, *, processors=1):
    """Return how many length lists let all jobs finish at or before the end of unit `last`."""
    check_jobs(jobs)
    numbers = {0: 1}
    for unit in range(1, last + 1):
        numbers = numbers_after(jobs, unit, processors, numbers)
    return numbers.get(len(jobs), 0)


def count_kth(jobs, k, unit, last, *, processors=1):
    """Return how many of these length lists have their k-th finish in the unit."""
    check_jobs(jobs)
    if unit > last:
        return 0
    numbers = {0: 1}
    for now in range(1, last + 1):
        numbers = numbers_after(jobs, now, processors, numbers)
        # The k-th finish is in the unit if k jobs have finished at its end, but not at its beginning.
        if now == unit - 1:
            numbers = {finished: numbers[finished] for finished in numbers if finished < k}
        elif now == unit:
            numbers = {finished: numbers[finished] for finished in numbers if finished >= k}
    return numbers.get(len(jobs), 0)


def count_sums(jobs, last, *, processors=1):
    """Return a dictionary from the sums to the numbers of these length lists that have the sum."""
    check_jobs(jobs)
    sums = {0: {0: 1}}
    for unit in range(1, last + 1):
        sums = sums_after(jobs, unit, processors, sums)
    found = sums.get(len(jobs), {})
    return {total: found[total] for total in sorted(found)}


def count_logs(jobs, last, *, processors=1):
    """Return how many possible logs end at or before unit `last`."""
    check_jobs(jobs)
    return rests_of(jobs, last, processors)[0][0]


def nth_log(jobs, last, number, *, processors=1):
    """Return the log with this number among those that end at or before unit `last`."""
    check_jobs(jobs)
    rests = rests_of(jobs, last, processors)
    if not is_integer(number, 0) or number >= rests[0][0]:
        raise NoNumber(number)
    log = []
    finished = 0
    for unit in range(1, last + 1):
        for finishes in in_order(jobs, unit, finished, processors):
            many = rests[unit][finished + finishes]
            if number < many:
                break
            number -= many
        if finishes > 0:
            log.append((unit, finishes))
            finished += finishes
    return tuple(log)


def number_of_log(jobs, log, last, *, processors=1):
    """Return the number of the log among those that end at or before unit `last`."""
    check_jobs(jobs)
    check_log(log)
    if first_fault(jobs, log, processors=processors) is not None or (log and log[-1][0] > last):
        raise NoNumber(None)
    rests = rests_of(jobs, last, processors)
    by_unit = dict(log)
    number = finished = 0
    for unit in range(1, last + 1):
        finishes = by_unit.get(unit, 0)
        order = in_order(jobs, unit, finished, processors)
        ahead = order[:order.index(finishes)]
        number += sum([rests[unit][finished + other] for other in ahead])
        finished += finishes
    return number


def outcomes(jobs, unit, finished, processors):
    """Return the pairs (finishes, ways) of a unit with so many jobs finished before it."""
    running = count_running(jobs, unit, finished, processors)
    return [(finishes, comb(running, finishes)) for finishes in range(running + 1)]


def numbers_after(jobs, unit, processors, numbers):
    """Return how many ways lead to each number of finishes at the end of the unit.

    `numbers` tells the same for its beginning.
    """
    following = {}
    for finished, number in numbers.items():
        for finishes, many in outcomes(jobs, unit, finished, processors):
            there = finished + finishes
            following[there] = following.get(there, 0) + number * many
    return following


def sums_after(jobs, unit, processors, sums):
    """Return, by the number of finishes at the end of the unit, how many ways lead to each sum.

    `sums` tells the same for its beginning.
    """
    following = {}
    for finished, numbers in sums.items():
        for finishes, many in outcomes(jobs, unit, finished, processors):
            there = following.setdefault(finished + finishes, {})
            for total, number in numbers.items():
                higher = total + unit * finishes
                there[higher] = there.get(higher, 0) + number * many
    return following


def rests_of(jobs, last, processors):
    """Return a list with a row for each moment up to `last`.

    A row tells, for each number of finishes by then, in how many ways a possible log goes on.
    """
    rests = [[0] * len(jobs) + [1]]
    for unit in range(last, 0, -1):
        behind = rests[-1]
        rests.append([
            sum([behind[finished + finishes] for finishes, _ in outcomes(jobs, unit, finished, processors)])
            for finished in range(len(jobs) + 1)
        ])
    return rests[::-1]


def in_order(jobs, unit, finished, processors):
    """Return the numbers of jobs that may finish in the unit, in the order of their logs."""
    running = count_running(jobs, unit, finished, processors)
    # Without a finish here the next pair of the log has a later unit, so it stands behind.
    return list(range(1, running + 1)) + [0]
