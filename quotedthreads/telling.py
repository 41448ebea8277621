"""Telling: who can be the writer of a line, and who is confused with whom."""

from quotedthreads.arrows import arrows_of
from quotedthreads.books import check_book, check_person
from quotedthreads.errors import InvalidMarks
from quotedthreads.forms import is_marks
from quotedthreads.pairs import confused_pairs


def reaches(book, writer, sender, marks):
    """Whether lines of the writer reach a standing."""
    check_standing(book, writer, sender, marks)
    return writer in can_be(book, sender, marks)


def can_be(book, sender, marks):
    """The names of all who can be the writer of a line with these marks in a mail from this sender."""
    check_book(book)
    check_person(book, sender)
    check_marks(marks)
    arrows = arrows_of(book)
    places = arrows.writers_at(arrows.places[sender], marks)
    return tuple([book.names[place] for place in places])


def can_be_anywhere(book, marks):
    """The names of all who can be the writer of a line with these marks, whoever the sender is."""
    check_book(book)
    check_marks(marks)
    arrows = arrows_of(book)
    found = {}
    for sender in range(arrows.size):
        for place in arrows.writers_at(sender, marks):
            found[place] = True
    return tuple([book.names[place] for place in sorted(found)])


def clear(book):
    """Whether no two people are ever confused."""
    check_book(book)
    return not confused_pairs(arrows_of(book), 1)


def confusion(book):
    """The first (marks, sender, one, other) of two people who are confused there, None if the book is clear."""
    check_book(book)
    arrows = arrows_of(book)
    pairs = confused_pairs(arrows, 1)
    if not pairs:
        return None
    marks = list(pairs.values())[0]
    tuples = []
    for sender in range(arrows.size):
        writers = arrows.writers_at(sender, marks)
        if len(writers) > 1:
            tuples.append((marks, book.names[sender], book.names[writers[0]], book.names[writers[1]]))
    return tuples[0]


def confused(book):
    """All pairs of names of people who are confused somewhere, in the order of the book."""
    check_book(book)
    many = len(book.names)
    pairs = confused_pairs(arrows_of(book), many * (many - 1) // 2)
    return tuple([(book.names[one], book.names[other]) for one, other in sorted(pairs)])


def check_standing(book, writer, sender, marks):
    check_book(book)
    check_person(book, writer)
    check_person(book, sender)
    check_marks(marks)


def check_marks(marks):
    if not is_marks(marks):
        raise InvalidMarks(marks)
