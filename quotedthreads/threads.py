"""Threads: where a line is led by answers, one behind the other."""

from quotedthreads.books import check_book, check_person
from quotedthreads.errors import InvalidThread
from quotedthreads.forms import are_strings


def led(book, writer, thread):
    """The standings through which a line of the writer goes, None as the last one if it is gone."""
    check_book(book)
    check_person(book, writer)
    if not isinstance(thread, tuple):
        raise InvalidThread(None)
    standings = [(writer, "")]
    for index, pair in enumerate(thread):
        standing = standings[-1]
        if standing is None or not are_strings(pair, 2) or (*pair, standing[0]) not in book.answers:
            raise InvalidThread(index)
        standings.append(_next_standing(book, pair, standing))
    return tuple(standings)


def possible(book, sender):
    """The pairs (who, program) of the answers to this sender, in the order of the book."""
    check_book(book)
    check_person(book, sender)
    return tuple([(who, program) for who, program, whom in book.answers if whom == sender])


def made_of(book, program, whom, marks):
    """What the program with this name makes of marks where whom is answered, None if the line is left out."""
    return book.program(program).treat(marks, book.own(whom))


def _next_standing(book, pair, standing):
    who, program = pair
    sender, marks = standing
    made = made_of(book, program, sender, marks)
    return None if made is None else (who, made)
