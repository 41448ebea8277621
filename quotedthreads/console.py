"""The console: a desk by lines."""

from quotedthreads.desks import Desk
from quotedthreads.errors import CannotBe, InvalidText, NotRight, NotThere
from quotedthreads.forms import is_marks, is_name
from quotedthreads.limits import MOST_COUNT
from quotedthreads.numbers import behind, gone_after, longest
from quotedthreads.programs import Program
from quotedthreads.telling import can_be, confusion

_DONE = "ok"
_NONE = "-"
_NO_SIGNS = "none"


class Console:
    """A console has a desk and answers lines."""

    def __init__(self, book):
        self._desk = Desk(book)

    def say(self, line):
        """The answer to a line."""
        if not isinstance(line, str) or "\n" in line:
            raise InvalidText(line)
        try:
            answer = _answer(self._desk, line)
        except (NotRight, NotThere, CannotBe) as error:
            return error.__class__.__name__
        if answer is None:
            raise InvalidText(line)
        return answer


def _put_program(desk, line):
    desk.put_program(Program.read(line.replace("; ", "\n")))
    return _DONE


def _put_signs(desk, line):
    desk.put_signs(tuple(line.removeprefix("signs ")))
    return _DONE


def _undo(desk, _):
    desk.undo()
    return _DONE


def _claim(desk, values):
    desk.claim(tuple(values[1:]))
    return _DONE


def _who(desk, values):
    names = can_be(desk.book, values[1], values[2])
    return " ".join(names) if names else _NONE


def _behind(desk, values):
    numbers = behind(desk.book, values[1], values[2], values[3])
    return _NONE if numbers is None else " ".join([_number(number) for number in numbers])


def _clear(desk, _):
    told = confusion(desk.book)
    if told is None:
        return "yes"
    marks, *names = told
    return " ".join([marks or _NO_SIGNS, *names])


def _longest(desk, values):
    return _number(longest(desk.book, values[1]))


def _gone(desk, values):
    return _number(gone_after(desk.book, values[1]))


def _book(desk, _):
    return str(desk.book)


def _number(value):
    return _NONE if value is None else str(value)


# The lines with words only, and what is done for them with the values of their words.
_ACTIONS = {
    "undo": _undo,
    "claim clear": _claim,
    "claim kept NAME": _claim,
    "claim within NAME N": _claim,
    "claim tells NAME MARKS NAME": _claim,
    "who NAME MARKS": _who,
    "behind NAME NAME MARKS": _behind,
    "clear": _clear,
    "longest NAME": _longest,
    "gone NAME": _gone,
    "book": _book,
}


def _answer(desk, line):
    """The answer to a line, None if there is no such line."""
    if line.startswith("program "):
        return _put_program(desk, line)
    if line.startswith("signs "):
        return _put_signs(desk, line)
    for form in _ACTIONS:
        values = _values_of(form, line)
        if values is not None:
            action = _ACTIONS[form]
            return action(desk, values)
    return None


def _values_of(form, line):
    """The values of the words of a line, None if it has not this form."""
    kinds, words = form.split(" "), line.split(" ")
    if len(kinds) != len(words):
        return None
    values = [_value_of(kind, word) for kind, word in zip(kinds, words)]
    return None if any([value is None for value in values]) else values


def _value_of(kind, word):
    """The value of a word, None if it is none of this kind."""
    if kind == "NAME":
        return word if is_name(word) else None
    if kind == "MARKS":
        return _marks_of(word)
    if kind == "N":
        numbers = [str(number) for number in range(MOST_COUNT + 1)]
        return numbers.index(word) if word in numbers else None
    return word if word == kind else None


def _marks_of(word):
    if word == _NO_SIGNS:
        return ""
    return word if word and is_marks(word) else None
