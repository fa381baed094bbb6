"""Tests of single values that several modules share."""


def is_integer(value, least):
    """Tell whether the value is an integer from `least` on."""
    # A boolean is an `int` in Python, but no integer here.
    return isinstance(value, int) and not isinstance(value, bool) and value >= least


def is_tuple_of(value, many):
    """Tell whether the value is a tuple with so many parts."""
    return isinstance(value, tuple) and len(value) == many


def is_name(value):
    """Tell whether the value is a string of 1 to 8 letters from a to z."""
    if not isinstance(value, str) or not 1 <= len(value) <= 8:
        return False
    return all("a" <= letter <= "z" for letter in value)
