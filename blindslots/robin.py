"""Round robin on one processor, with jobs that all arrive at moment 0."""

from blindslots.errors import NoLengths, NoOrder
from blindslots.kinds import is_integer
from blindslots.lengths import check_lengths


def robin_units(lengths):
    """Return the finish units, in the order of the jobs."""
    check_robin(lengths)
    return tuple([robin_unit(lengths, index) for index in range(len(lengths))])


def robin_order(lengths):
    """Return the indexes of the jobs in the order in which they finish."""
    check_robin(lengths)
    pairs = sorted([(length, index) for index, length in enumerate(lengths)])
    return tuple([index for _, index in pairs])


def least_lengths(order):
    """Return the least lengths with which the jobs finish in this order."""
    check_order(order)
    least = [0] * len(order)
    length = 1
    before = -1
    for index in order:
        # Equal lengths finish in the order of the indexes, so a smaller index needs a greater length.
        if index < before:
            length += 1
        least[index] = length
        before = index
    return tuple(least)


def count_robin(order, total):
    """Return how many length lists with this sum let the jobs finish in this order."""
    rest = total - sum(least_lengths(order))
    # Each such list comes from the least one by adding 1 to the last few jobs of the order,
    # again and again: the numbers of these jobs are the parts of the rest.
    return count_parts(rest, len(order)) if rest >= 0 else 0


def count_parts(total, most):
    """Return in how many ways the total is a sum of parts from 1 to `most`, in any order."""
    numbers = [1] + [0] * total
    for part in range(1, most + 1):
        for reached in range(part, total + 1):
            numbers[reached] += numbers[reached - part]
    return numbers[total]


def robin_unit(lengths, index):
    """Return the unit in which the job with this index finishes."""
    length = lengths[index]
    ahead = [min(other, length) for other in lengths[:index + 1]]
    # The jobs behind it have no turn any more in its last round.
    behind = [min(other, length - 1) for other in lengths[index + 1:]]
    return sum(ahead + behind)


def check_robin(lengths):
    """Raise NoLengths with the place of the first fault of lengths of as many jobs."""
    if not isinstance(lengths, tuple):
        raise NoLengths(0)
    check_lengths(lengths, len(lengths))


def check_order(order):
    """Raise NoOrder with the place of the first fault of the order."""
    if not isinstance(order, tuple):
        raise NoOrder(0)
    for place, index in enumerate(order):
        if not is_integer(index, 0) or index >= len(order) or index in order[:place]:
            raise NoOrder(place)
