"""Certificates: claims for the checker, with what shows that they are true."""

from quotedthreads.arrows import arrows_of
from quotedthreads.numbers import gone, gone_after, longer, shortest
from quotedthreads.telling import confusion, reaches


def certify_can(book, writer, sender, marks):
    """That a line of the writer reaches a standing."""
    thread = shortest(book, writer, sender, marks)
    if thread is None:
        return None
    return (("can", str(book), writer, sender, marks), thread)


def certify_never(book, writer, sender, marks):
    """That a line of the writer never reaches a standing."""
    if reaches(book, writer, sender, marks):
        return None
    return (("never", str(book), writer, sender, marks), _machine(book, writer))


def certify_confused(book):
    """That two people are confused where `confusion` tells it first."""
    told = confusion(book)
    if told is None:
        return None
    marks, sender, one, other = told
    threads = (shortest(book, one, sender, marks), shortest(book, other, sender, marks))
    return (("confused", str(book), sender, marks, one, other), threads)


def certify_gone(book, writer):
    """That a line of the writer can be gone."""
    thread = gone(book, writer)
    if thread is None:
        return None
    return (("gone", str(book), writer), thread)


def certify_kept(book, writer):
    """That a line of the writer is never gone."""
    if gone_after(book, writer) is not None:
        return None
    return (("kept", str(book), writer), _machine(book, writer))


def certify_within(book, writer, many):
    """That a line of the writer never has more than so many signs."""
    if longer(book, writer, many) is not None:
        return None
    return (("within", str(book), writer, many), _machine(book, writer))


def _machine(book, writer):
    """The arrows on ways to the end of the writer: they read just the marks that lines of the writer get."""
    arrows = arrows_of(book)
    triples = arrows.triples_to(arrows.places[writer])
    return tuple([(_node(book, start), sign, _node(book, goal)) for start, sign, goal in triples])


def _node(book, number):
    """A node as it stands in a machine: people by their names."""
    return book.names[number] if number < len(book.names) else number
