"""A plain look at machines, as the document tells of them, and whether the claims they are for are true."""

from quotedthreads.books import Book
from quotedthreads.numbers import gone_after, longest
from quotedthreads.telling import reaches
from tests.values import SIGNS
from tests.walks import made


def contexts(book):
    return ["_", *[sign + "_" for sign in book.signs], *[one + other for one in book.signs for other in book.signs]]


def rules(book):
    """The rules (whom, context, who, made) as the document tells of them."""
    owns, cases = dict(book.people), {program.name: program.cases for program in book.programs}
    found = []
    for who, program, whom in book.answers:
        for context in contexts(book):
            marks = made(cases[program], context.replace("_", ""), owns[whom])
            found.append((whom, context, who, None if marks is None else marks + "_" * context.count("_")))
    return found


def skipped(machine, nodes):
    while True:
        more = nodes | {goal for start, sign, goal in machine if sign == "" and start in nodes}
        if more == nodes:
            return nodes
        nodes = more


def read(machine, start, text):
    nodes = skipped(machine, {start})
    for letter in text:
        nodes = skipped(machine, {goal for start, sign, goal in machine if sign == letter and start in nodes})
    return nodes


def end_of(machine, writer):
    starts = {start for start, _, _ in machine}
    ends = [node for node in read(machine, writer, "_") if isinstance(node, int) and node not in starts]
    return ends[0] if len(ends) == 1 else None


def is_closed(book, machine, writer):
    names = {node for start, _, goal in machine for node in (start, goal) if isinstance(node, str)}
    if not names <= set(book.names) or end_of(machine, writer) is None:
        return False
    return all([read(machine, whom, context) <= read(machine, who, marks)
                for whom, context, who, marks in rules(book) if marks is not None])


def reads_more(book, machine, end, many):
    """Looks at all numbers of signs up to one at which there is no way any more that goes round nowhere."""
    nodes, size = skipped(machine, set(book.names)), len(machine)
    for number in range(many + 2 * size + 3):
        ends = skipped(machine, {goal for start, sign, goal in machine if sign == "_" and start in nodes})
        if number > many and end in ends:
            return True
        nodes = skipped(machine, {goal for start, sign, goal in machine if sign in SIGNS and sign and start in nodes})
    return False


def plainly_accepts(claim, machine):
    """For a claim for the checker with a machine, and a machine that is a tuple of triples as they have to be."""
    book, writer = Book.read(claim[1]), claim[2]
    if not is_closed(book, machine, writer):
        return False
    end = end_of(machine, writer)
    if claim[0] == "never":
        return end not in read(machine, claim[3], claim[4] + "_")
    if claim[0] == "kept":
        return not any([read(machine, whom, context) for whom, context, _, marks in rules(book) if marks is None])
    return not reads_more(book, machine, end, claim[3])


def is_true(claim):
    book = Book.read(claim[1])
    if claim[0] == "never":
        return not reaches(book, *claim[2:])
    if claim[0] == "kept":
        return gone_after(book, claim[2]) is None
    most = longest(book, claim[2])
    return most is not None and most <= claim[3]
