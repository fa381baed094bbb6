"""Rules: levels with their quanta, and a boost."""

from blindslots.errors import NoRule
from blindslots.kinds import is_integer, is_tuple_of

FIRST_COME = ((("queue", None),), None)
LAST_COME = ((("stack", None),), None)
ROUND_ROBIN = ((("queue", 1),), None)

MOST_LEVELS = 6


def check_rule(rule):
    """Raise NoRule with the place of the first fault; return None for a valid rule."""
    if not is_tuple_of(rule, 2):
        raise NoRule(0)
    levels, boost = rule
    if not isinstance(levels, tuple) or not 1 <= len(levels) <= MOST_LEVELS:
        raise NoRule(0)
    for place, level in enumerate(levels):
        if not is_level(level):
            raise NoRule(place)
    if not is_count(boost):
        raise NoRule(len(levels))


def is_level(level):
    """Tell whether the value is a valid level."""
    return is_tuple_of(level, 2) and level[0] in ("queue", "stack") and is_count(level[1])


def is_count(value):
    """Tell whether the value can be a quantum or a boost."""
    return value is None or is_integer(value, 1)
