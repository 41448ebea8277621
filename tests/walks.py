"""Books that are drawn, and plain walks along all threads of a book, as the document tells of them."""

import random

from quotedthreads.books import Book
from quotedthreads.programs import Program
from tests.values import SIGNS

# The book of the document: marks grow to two signs, and stay so.
TWO = Book.read("""person ann >
person bob |
program two
begin >>: >>
else: >
answer bob two ann
answer ann two bob""")
# Marks grow without end and tell all who were answered.
OWN = Book.read("person ann >\nperson bob |\nprogram own\nelse: @\nanswer bob own ann\nanswer ann own bob")
NAMES = ("ann", "bob", "cid", "dora")


def drawn_put(draw, signs, gone, lengths):
    if draw.random() < gone:
        return None
    return "".join(["@" if draw.random() < 0.3 else draw.choice(signs) for _ in range(draw.choice(lengths))])


def drawn_program(draw, name, signs, gone, lengths):
    cases = []
    for _ in range(draw.randint(0, 4)):
        only = draw.random() < 0.35
        begin = "".join([draw.choice(signs) for _ in range(draw.choice((0, 1) if only else (1, 2, 2)))])
        cases.append((begin, only, drawn_put(draw, signs, gone, lengths)))
    return Program(name, (*cases, ("", False, drawn_put(draw, signs, gone, lengths))))


def drawn_book(draw, people=None, programs=None, answers=None, gone=0.1, lengths=(0, 1, 2, 3)):
    """A book with so many people, programs and answers; any numbers that may be, if none are told."""
    signs = "".join(sorted(draw.sample(SIGNS, draw.randint(1, 4))))
    names = draw.sample(NAMES, people or draw.randint(1, 4))
    made = [drawn_program(draw, name, signs, gone, lengths) for name in "pqrs"[:programs or draw.randint(1, 4)]]
    triples = [(who, program.name, whom) for who in names for program in made for whom in names]
    draw.shuffle(triples)
    many = draw.randint(0, 8) if answers is None else answers
    return Book(tuple([(name, draw.choice(signs)) for name in names]), tuple(made), tuple(triples[:many]))


def drawn_books(seed, many, **numbers):
    draw = random.Random(seed)
    return [drawn_book(draw, **numbers) for _ in range(many)]


def taken(cases, marks):
    for index, (begin, only, _) in enumerate(cases):
        if marks == begin if only else marks.startswith(begin):
            return index


def made(cases, marks, own):
    begin, _, put = cases[taken(cases, marks)]
    return None if put is None else put.replace("@", own) + marks[len(begin):]


class Walk:
    """All lines of a writer along all threads of at most `longest` answers.

    `rows` has the standings that threads of each length lead to, `gone` the least length of a thread by
    which a line is gone (None if there is none), `met` the (program, index) of the cases that treat a line.
    The walk ends early where there are more than `most` standings; len(rows) tells how far it went.
    """

    def __init__(self, book, writer, longest, most=1500):
        self.book, self.owns = book, dict(book.people)
        self.cases = {program.name: program.cases for program in book.programs}
        self.rows, self.gone, self.met = [{(writer, "")}], None, set()
        while len(self.rows) <= longest and len(self.rows[-1]) <= most:
            self.rows.append(self.step(self.rows[-1]))
        self.longest = len(self.rows) - 1

    def step(self, standings):
        row = set()
        for sender, marks in standings:
            for who, program, whom in self.book.answers:
                if whom == sender:
                    self.met.add((program, taken(self.cases[program], marks)))
                    standing = (who, made(self.cases[program], marks, self.owns[whom]))
                    if standing[1] is not None:
                        row.add(standing)
                    elif self.gone is None:
                        self.gone = len(self.rows)
        return row

    def lengths(self):
        """The lengths of the threads that lead to each standing."""
        found = {}
        for length, row in enumerate(self.rows):
            for standing in row:
                found.setdefault(standing, []).append(length)
        return found

    def standings(self):
        return {standing for row in self.rows for standing in row}

    def most_signs(self):
        return max([len(marks) for row in self.rows for _, marks in row])


class Whole(Walk):
    """A walk that looks at each standing once, and at all of them: `whole` is false if there are more than `most`."""

    def __init__(self, book, writer, most=1500):
        super().__init__(book, writer, 0)
        seen = set(self.rows[0])
        while self.rows[-1] and len(seen) <= most:
            self.rows.append(self.step(self.rows[-1]) - seen)
            seen |= self.rows[-1]
        self.whole = len(seen) <= most


def walks(book, longest, most=1500):
    return {name: Walk(book, name, longest, most) for name in book.names}


def whole_walks(book, most=1500):
    """Walks that look at all standings, None if there are too many for one of the writers."""
    found = {name: Whole(book, name, most) for name in book.names}
    return found if all([walk.whole for walk in found.values()]) else None


def by_marks(marks):
    return (len(marks), marks)
