"""Values that several tests pass: programs, marks, and what may stand in the place of anything."""

import unittest
from itertools import product

from quotedthreads.programs import Program

SIGNS = "#*+:=>|"


class EqualToAll:
    """Says that it is equal to everything, and that it is empty."""

    def __eq__(self, other):
        return True

    def __ne__(self, other):
        return False

    def __len__(self):
        return 0


class Incomparable:
    """Cannot be compared and has no truth."""

    def __eq__(self, other):
        raise RuntimeError("compared")

    def __bool__(self):
        raise RuntimeError("tested")


def deep(levels):
    value = ()
    for _ in range(levels - 1):
        value = (value,)
    return value


# Nothing here is a string, a tuple of cases or a program.
STRANGE = [
    None, True, False, 0, 1, -1, 2, 10 ** 39, -10 ** 39, b"", b">", b"two", [], [">"], ["two"], {}, {">": 1},
    set(), {">"}, frozenset(), (">",), ("a",), deep(10), [[[]]], object(), str, int, tuple, Program, len,
    lambda: None, ValueError, ValueError("x"), range(3), iter(()), EqualToAll(), Incomparable(), NotImplemented, ...,
]

ELSE = ("", False, ">")

# Strings that are no names; other values that are none are in STRANGE.
NO_NAMES = ["", "abcdefghi", "a" * 100, "Ann", "aNn", "2ann", "0", " ann", "ann ", "ann\n", "a b", "a_b", "a-b", ">"]
# Strings that are no signs.
NO_SIGNS = ["", "@", "a", " ", "\n", ">>", "#*", ">|", "=>", "> ", ">\n", SIGNS, "none"]


class Refusing(unittest.TestCase):
    """For tests of errors that tell the value that was passed."""

    def assert_refused(self, error, given, *calls):
        for call in calls:
            with self.assertRaises(error) as caught:
                call()
            self.assertIs(given, caught.exception.given)


def plain(name):
    return Program(name, (ELSE,))


def marks_up_to(longest, signs=SIGNS):
    return ["".join(row) for length in range(longest + 1) for row in product(signs, repeat=length)]


def changed(text):
    """All texts with a character less, more, another one, or two neighbours exchanged."""
    letters = "\n #*+:=>|@agonelsbiyp0A"
    for at in range(len(text) + 1):
        yield text[:at] + text[at + 1:]
        yield text[:at] + text[at:at + 2][::-1] + text[at + 2:]
        for letter in letters:
            yield text[:at] + letter + text[at:]
            yield text[:at] + letter + text[at + 1:]


def many_programs():
    """Programs with cases of each kind, one to five of them, in several orders."""
    rows = [
        (),
        ((">>", False, ">>"),),
        (("", True, "@"),),
        ((">", True, "|>"),),
        ((">", False, "@"),),
        (("#", False, None),),
        (("#", True, None),),
        (("", True, None),),
        (("::", False, ":"),),
        ((":", False, ""),),
        ((":", True, ""),),
        (("|>", False, "@@@"),),
        (("|", False, "@|@"), ("|>", False, ">")),
        (("|>", False, ">"), ("|", False, "@|@")),
        ((">", True, ""), (">>", False, None), (">", False, "*@")),
        (("", True, "@"), ("", True, ">"), ("=", False, "=@")),
        (("+", True, "+@"), ("+*", False, "*+"), ("*+", False, "+")),
        (("", True, "@"), (">", True, "|>"), (">>", False, ">>"), ("#", False, None)),
        (("=", False, "=="), ("==", False, "="), ("*", True, "@:@"), ("", True, "")),
    ]
    puts = (">", "@", "", None, "@>@")
    made = []
    for row in rows:
        for put in puts:
            made.append(Program("two", (*row, ("", False, put))))
    return made
