"""Desks: a book with claims that hold after each change."""

from quotedthreads.books import check_book, check_person
from quotedthreads.errors import Broken, InvalidClaim, InvalidPlace, NothingToUndo
from quotedthreads.forms import is_count, is_integer, is_marks
from quotedthreads.numbers import gone, longer
from quotedthreads.telling import can_be, confusion

# How many elements the claims with each word have.
_SIZES = {"clear": 1, "kept": 2, "within": 3, "tells": 4}


class State:
    """What a desk is like: its book, its claims, and the state before the last change."""

    def __init__(self, held, asked, earlier):
        self.held = held
        self.asked = asked
        self.earlier = earlier
        self.many = 0 if earlier is None else earlier.many + 1


class Desk:
    """A desk has a book and claims about it."""

    def __init__(self, book):
        check_book(book)
        self._state = State(book, (), None)

    @property
    def book(self):
        return self._state.held

    @property
    def claims(self):
        return self._state.asked

    @property
    def changes(self):
        return self._state.many

    def put_program(self, program):
        """Puts a program in the place of the one with its name."""
        self._put(self._state.held.with_program(program))

    def put_signs(self, signs):
        """Gives the people these own signs."""
        self._put(self._state.held.with_signs(signs))

    def put_answers(self, answers):
        """Puts these answers in the place of the others."""
        self._put(self._state.held.with_answers(answers))

    def claim(self, claim):
        """Takes a claim more, behind the others."""
        _check_claim(self._state.held, claim)
        claims = (*self._state.asked, claim)
        # All others hold for this book.
        _check_holds(self._state.held, claims, len(claims) - 1)
        self._state = State(self._state.held, claims, self._state)

    def lift(self, index):
        """Takes a claim away."""
        claims = self._state.asked
        if not is_integer(index) or not 0 <= index < len(claims):
            raise InvalidPlace(index)
        self._state = State(self._state.held, (*claims[:index], *claims[index + 1:]), self._state)

    def undo(self):
        """Takes back the last change that has not been taken back."""
        if self._state.earlier is None:
            raise NothingToUndo()
        self._state = self._state.earlier

    def trial(self):
        """For a with statement: if its rows end with an exception, the desk is as it was when they began."""
        return Trial(self)

    def tried(self, action):
        """Calls a function with the desk within a trial and returns what it returns."""
        with self.trial() as desk:
            return action(desk)

    def _put(self, book):
        for index in range(len(self._state.asked)):
            _check_holds(book, self._state.asked, index)
        self._state = State(book, self._state.asked, self._state)


class Begun:
    """A trial that has begun: the state of the desk then, and the begun one around it, if there is one."""

    def __init__(self, state, outer):
        self.state = state
        self.outer = outer


class Trial:
    """A trial takes back what is done to a desk in rows that end with an exception."""

    def __init__(self, desk):
        self._desk = desk
        self._begun = None

    def __enter__(self):
        self._begun = Begun(self._desk._state, self._begun)
        return self._desk

    def __exit__(self, kind, value, trace):
        desk = self._desk
        if kind is not None:
            desk._state = self._begun.state
        self._begun = self._begun.outer


def _check_claim(book, claim):
    if not _is_claim(claim):
        raise InvalidClaim(claim)
    for name in _names_in(claim):
        check_person(book, name)


def _is_claim(value):
    """Whether a value is a claim, whatever stands in the places of its names."""
    if not isinstance(value, tuple) or len(value) == 0 or not isinstance(value[0], str):
        return False
    word = value[0]
    if word not in _SIZES or len(value) != _SIZES[word]:
        return False
    if word == "within":
        return is_count(value[2])
    return word != "tells" or is_marks(value[2])


def _names_in(claim):
    if claim[0] == "tells":
        return [claim[1], claim[3]]
    return list(claim[1:2])


def _check_holds(book, claims, index):
    shown = _shown_against(book, claims[index])
    if shown is not None:
        raise Broken(index, shown)


def _shown_against(book, claim):
    """What shows that a claim does not hold, None if it does."""
    word = claim[0]
    if word == "clear":
        return confusion(book)
    if word == "kept":
        return gone(book, claim[1])
    if word == "within":
        return longer(book, claim[1], claim[2])
    names = can_be(book, claim[1], claim[2])
    return None if all([name == claim[3] for name in names]) else names
