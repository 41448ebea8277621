"""Mails as they are: lines with marks and texts, and who wrote them."""

from quotedthreads.books import check_book, check_person
from quotedthreads.errors import InvalidLeft, InvalidTexts, UnknownAnswer
from quotedthreads.forms import are_strings, is_integer
from quotedthreads.threads import made_of

_MOST_TEXTS = 20


class Mail:
    """A mail has a book, a sender, and lines (marks, text); at first all of them are the sender's own."""

    def __init__(self, book, sender, texts):
        check_book(book)
        check_person(book, sender)
        _check_texts(texts)
        self._book = book
        self._sender = sender
        self._written = _own_lines(sender, texts)

    @property
    def book(self):
        return self._book

    @property
    def sender(self):
        return self._sender

    @property
    def lines(self):
        return tuple([(marks, text) for _, marks, text in self._written])

    @property
    def writers(self):
        return tuple([writer for writer, _, _ in self._written])

    def answered(self, who, program, above=(), below=(), left=()):
        """The mail with which this person answers: own lines, the lines of this mail, own lines."""
        answer = (who, program, self._sender)
        if not are_strings(answer, 3) or answer not in self._book.answers:
            raise UnknownAnswer(answer)
        _check_texts(above)
        _check_texts(below)
        _check_left(left, len(self._written))
        mail = Mail(self._book, who, ())
        mail._written = [*_own_lines(who, above), *self._quoted(program, left), *_own_lines(who, below)]
        return mail

    def _quoted(self, program, left):
        """The lines as the program treats them, without those that are left out."""
        kept = []
        for index, (writer, marks, text) in enumerate(self._written):
            made = made_of(self._book, program, self._sender, marks)
            if made is not None and index not in left:
                kept.append((writer, made, text))
        return kept

    def __str__(self):
        return "\n".join([f"{marks} {text}" if marks else text for _, marks, text in self._written])

    def __repr__(self):
        return f"Mail of {len(self._written)} lines from {self._sender}"


def _own_lines(writer, texts):
    return [(writer, "", text) for text in texts]


def _check_texts(texts):
    if not isinstance(texts, tuple):
        raise InvalidTexts(None)
    for index, text in enumerate(texts):
        if index >= _MOST_TEXTS or not isinstance(text, str) or "\n" in text:
            raise InvalidTexts(index)


def _check_left(left, many):
    """Checks that there are only different indexes of so many lines."""
    if not isinstance(left, tuple):
        raise InvalidLeft(None)
    for index, value in enumerate(left):
        if not is_integer(value) or not 0 <= value < many or value in left[:index]:
            raise InvalidLeft(index)
