"""Mends: which exchanges of programs, and which own signs of people, make a book clear."""

from itertools import combinations

from quotedthreads.books import Book, check_book
from quotedthreads.errors import InvalidExchanges, InvalidSigns, TooManySigns
from quotedthreads.forms import is_sign
from quotedthreads.limits import MOST_EXCHANGES, MOST_SIGNS
from quotedthreads.programs import Program
from quotedthreads.telling import clear


def clearing(book, exchanges):
    """All least lots of these exchanges that clear the book, as tuples of their indexes."""
    check_book(book)
    _check_exchanges(book, exchanges)
    lots = []
    for size in range(len(exchanges) + 1):
        for lot in combinations(range(len(exchanges)), size):
            if not _holds_a_lot(lot, lots) and _clears(book, [exchanges[index] for index in lot]):
                lots.append(lot)
    return tuple(lots)


def own_signs(book, signs):
    """The first own signs with which the book is clear, of those with the fewest unlike ones; None if none are."""
    check_book(book)
    _check_signs(signs)
    rows = [()]
    for _ in book.people:
        rows = [(*row, index) for row in rows for index in range(len(signs))]
    for row in sorted(rows, key=_by_unlike_signs):
        owns = tuple([signs[index] for index in row])
        if _clears_with(book, owns):
            return owns
    return None


def _holds_a_lot(lot, lots):
    return any([all([index in lot for index in less]) for less in lots])


def _clears(book, exchanges):
    """Whether the book is clear with all these exchanges; they are no lot if two are of one program."""
    named = {name: program for name, program in exchanges}
    if len(named) < len(exchanges):
        return False
    programs = tuple([named.get(program.name, program) for program in book.programs])
    try:
        # All at once: on the way there might be too many signs.
        changed = Book(book.people, programs, book.answers)
    except TooManySigns:
        return False
    return clear(changed)


def _clears_with(book, owns):
    try:
        changed = book.with_signs(owns)
    except TooManySigns:
        return False
    return clear(changed)


def _by_unlike_signs(row):
    return (len(set(row)), row)


def _check_exchanges(book, exchanges):
    if not isinstance(exchanges, tuple):
        raise InvalidExchanges(None)
    names = [program.name for program in book.programs]
    for index, value in enumerate(exchanges):
        if index >= MOST_EXCHANGES or not _is_exchange(value, names) or value in exchanges[:index]:
            raise InvalidExchanges(index)


def _is_exchange(value, names):
    if not isinstance(value, tuple) or len(value) != 2:
        return False
    name, program = value
    return isinstance(name, str) and name in names and isinstance(program, Program) and program.name == name


def _check_signs(signs):
    if not isinstance(signs, tuple) or len(signs) == 0:
        raise InvalidSigns(None)
    for index, value in enumerate(signs):
        if index >= MOST_SIGNS or not is_sign(value) or value in signs[:index]:
            raise InvalidSigns(index)
