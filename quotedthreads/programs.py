"""Programs: what they make of the marks of a line that is quoted."""

from quotedthreads.errors import InvalidCases, InvalidMarks, InvalidName, InvalidSign, InvalidText, NotAProgram
from quotedthreads.forms import is_marks, is_name, is_sign
from quotedthreads.limits import MOST_CASES, SIGNS

_LONGEST_BEGIN = 2
_LONGEST_ONLY_BEGIN = 1
_LONGEST_PUT = 3
_GONE = "gone"
_NOTHING = "none"


class Program:
    """A program has a name and cases (begin, only, put)."""

    def __init__(self, name, cases):
        if not is_name(name):
            raise InvalidName(name)
        if not isinstance(cases, tuple) or len(cases) == 0:
            raise InvalidCases(None)
        wrong = _first_wrong(cases)
        if wrong is not None:
            raise InvalidCases(wrong)
        self._name = name
        self._cases = cases

    @classmethod
    def read(cls, text):
        """The program with this text."""
        if not isinstance(text, str):
            raise InvalidText(text)
        head, *rows = text.split("\n")
        try:
            program = cls(head.removeprefix("program "), tuple([_case_of(row) for row in rows]))
        except (InvalidName, InvalidCases):
            raise InvalidText(text) from None
        # The rows are taken apart without a look at how they are written: this tells what is off.
        if str(program) != text:
            raise InvalidText(text)
        return program

    @property
    def name(self):
        return self._name

    @property
    def cases(self):
        return self._cases

    def treat(self, marks, own):
        """What the program makes of marks, None if the line is left out."""
        if not is_marks(marks):
            raise InvalidMarks(marks)
        if not is_sign(own):
            raise InvalidSign(own)
        made = _made(self._cases, marks)
        # Marks have no @ of their own: each one there is of the put.
        return None if made is None else made.replace("@", own)

    def taken(self, marks):
        """The index of the case that fits."""
        if not is_marks(marks):
            raise InvalidMarks(marks)
        return _taken(self._cases, marks)

    def __eq__(self, other):
        # Texts are equal exactly if names and cases are: each case is written in one way only.
        return isinstance(other, Program) and self._name == other._name and self._cases == other._cases

    def __str__(self):
        rows = [_row_of(case) for case in self._cases]
        return "\n".join([f"program {self._name}", *rows])

    def __repr__(self):
        return f"Program {self._name} of {len(self._cases)} cases"


def unlike(one, other):
    """The first (marks, own) that two programs do not treat alike, None if there is none."""
    if not isinstance(one, Program):
        raise NotAProgram(one)
    if not isinstance(other, Program):
        raise NotAProgram(other)
    begins = [begin for begin, _, _ in one.cases + other.cases]
    for marks in _marks_that_tell(begins):
        made, likewise = _made(one.cases, marks), _made(other.cases, marks)
        if made != likewise:
            return (marks, _own_that_tells(made, likewise))
    return None


def _marks_that_tell(begins):
    """Marks in their order: the first ones that programs with these begins treat unlike are among them.

    No case looks beyond the second sign, and no only case fits two signs or more: what stands
    behind the second sign stays as it is, so programs that are unlike are so for such marks.
    """
    firsts = _signs_that_tell([begin[:1] for begin in begins])
    marks = ["", *firsts]
    for first in firsts:
        seconds = [begin[1] for begin in begins if len(begin) == 2 and begin[0] == first]
        marks.extend([first + second for second in _signs_that_tell(seconds)])
    return marks


def _signs_that_tell(begun):
    """The signs that begins have at a place, and the first one that none has, in their order.

    The same cases fit all signs that none has there, and leave them as they are: programs that
    treat the first of these signs alike treat all of them alike.
    """
    others = [sign for sign in SIGNS if sign not in begun]
    telling = begun + others[:1]
    return [sign for sign in SIGNS if sign in telling]


def _own_that_tells(made, likewise):
    """The first own sign with which two unlike makings differ, their @ being exchanged for it."""
    first, second = SIGNS[:2]
    if made is None or likewise is None or made.replace("@", first) != likewise.replace("@", first):
        return first
    # They differ only where an @ stands against the first sign: the second one tells them apart.
    return second


def _first_wrong(cases):
    """The index of the first case that is not valid, None if there is none."""
    last = len(cases) - 1
    for index, case in enumerate(cases):
        if index >= MOST_CASES or not _is_case(case) or _is_else(case) != (index == last):
            return index
    return None


def _is_case(value):
    if not isinstance(value, tuple) or len(value) != 3:
        return False
    begin, only, put = value
    return isinstance(only, bool) and _is_begin(begin, only) and _is_put(put)


def _is_begin(value, only):
    longest = _LONGEST_ONLY_BEGIN if only else _LONGEST_BEGIN
    return is_marks(value) and len(value) <= longest


def _is_put(value):
    if value is None:
        return True
    return isinstance(value, str) and len(value) <= _LONGEST_PUT and is_marks(value.replace("@", ""))


def _is_else(case):
    begin, only, _ = case
    return begin == "" and not only


def _taken(cases, marks):
    """The index of the first case that fits."""
    index = 0
    # The last case fits all marks.
    while not _fits(cases[index], marks):
        index += 1
    return index


def _fits(case, marks):
    begin, only, _ = case
    return marks == begin if only else marks.startswith(begin)


def _made(cases, marks):
    """What cases make of marks, with each @ of the put as it is; None if the line is left out."""
    begin, _, put = cases[_taken(cases, marks)]
    return None if put is None else put + marks[len(begin):]


def _row_of(case):
    begin, only, put = case
    if _is_else(case):
        head = "else"
    elif begin == "":
        head = "only"
    else:
        head = f"only {begin}" if only else f"begin {begin}"
    return f"{head}: {_word_of(put)}"


def _word_of(put):
    if put is None:
        return _GONE
    return put if put else _NOTHING


def _case_of(row):
    """The case that a row tells, if it is one; otherwise what is no case or has another row."""
    # Begins and puts have no spaces, but perhaps colons: the colon with a space ends the begin.
    head, _, word = row.rpartition(": ")
    kind, _, begin = head.partition(" ")
    return (begin, kind == "only", _put_of(word))


def _put_of(word):
    if word == _GONE:
        return None
    return "" if word == _NOTHING else word
