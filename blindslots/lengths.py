"""Length lists: one length for each job."""

from blindslots.errors import NoLengths
from blindslots.kinds import is_integer


def check_lengths(lengths, many):
    """Raise NoLengths with the place of the first fault of lengths for so many jobs."""
    if not isinstance(lengths, tuple):
        raise NoLengths(0)
    for place, length in enumerate(lengths):
        if place >= many or not is_integer(length, 1):
            raise NoLengths(place)
    if len(lengths) < many:
        raise NoLengths(len(lengths))
