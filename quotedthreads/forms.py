"""Which values are signs, marks, names, tuples of strings, integers and counts."""

from quotedthreads.limits import MOST_COUNT, SIGNS

_LETTERS = "abcdefghijklmnopqrstuvwxyz"
_LETTERS_AND_DIGITS = "abcdefghijklmnopqrstuvwxyz0123456789"
_LONGEST_NAME = 8


def is_sign(value):
    # The length is asked first: a longer piece of SIGNS, and "", are `in` it, too.
    return isinstance(value, str) and len(value) == 1 and value in SIGNS


def is_marks(value):
    # Without the signs at both its ends nothing is left exactly if there are only signs.
    return isinstance(value, str) and value.strip(SIGNS) == ""


def is_name(value):
    if not isinstance(value, str) or not 1 <= len(value) <= _LONGEST_NAME:
        return False
    return value[0] in _LETTERS and all([letter in _LETTERS_AND_DIGITS for letter in value])


def are_strings(value, many):
    """Whether a value is a tuple of so many strings.

    Only such values are looked up: one of another class may say that it is equal to anything.
    """
    return isinstance(value, tuple) and len(value) == many and all([isinstance(part, str) for part in value])


def is_integer(value):
    return isinstance(value, int) and not isinstance(value, bool)


def is_count(value):
    return is_integer(value) and 0 <= value <= MOST_COUNT
