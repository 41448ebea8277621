"""Numbers: how many answers lie behind lines, when they are gone, how many signs they get."""

from quotedthreads.arrows import arrows_of
from quotedthreads.books import check_book, check_person
from quotedthreads.errors import InvalidCount
from quotedthreads.facts import Facts
from quotedthreads.forms import is_count
from quotedthreads.rules import END, contexts_of, marks_of
from quotedthreads.telling import check_standing
from quotedthreads.ways import ahead_of, most_along, rows_ahead, way_along, way_to_end


def behind(book, writer, sender, marks):
    """The least and the greatest number of answers behind a standing, None if it is never reached."""
    ways = _ways_to(book, writer, sender, marks)
    if ways is None:
        return None
    facts, place, texts, rows = ways
    return (rows[0][place], most_along(facts, place, texts, rows))


def shortest(book, writer, sender, marks):
    """A thread of the least length that leads to a standing, None if none does."""
    ways = _ways_to(book, writer, sender, marks)
    if ways is None:
        return None
    facts, place, texts, rows = ways
    return facts.thread(way_along(facts, place, texts, rows))


def gone_after(book, writer):
    """The least number of answers by which a line of the writer is gone, None if it never is."""
    check_book(book)
    check_person(book, writer)
    facts = Facts(book)
    leavings = _leavings(facts, ahead_of(facts, _end(facts, writer)))
    return min(leavings)[0] + 1 if leavings else None


def gone(book, writer):
    """A thread of the least length by which a line of the writer is gone, None if it never is."""
    check_book(book)
    check_person(book, writer)
    facts = Facts(book)
    end = _end(facts, writer)
    ahead = ahead_of(facts, end)
    leavings = _leavings(facts, ahead)
    if not leavings:
        return None
    _, fact, pair = min(leavings)
    return (*facts.thread([fact, *way_to_end(facts, fact[2], ahead, end)]), pair)


def longest(book, writer):
    """The greatest number of signs that lines of the writer get, None if there is no greatest."""
    check_book(book)
    check_person(book, writer)
    arrows = arrows_of(book)
    return arrows.most_signs(arrows.places[writer])


def longer(book, writer, many):
    """A thread that leads a line of the writer to more than so many signs, None if there is none."""
    check_book(book)
    check_person(book, writer)
    if not is_count(many):
        raise InvalidCount(many)
    facts = Facts(book)
    end = _end(facts, writer)
    ahead = ahead_of(facts, end)
    texts = [book.signs] * (many + 1)
    rows = rows_ahead(facts, texts, ahead)
    starts = [(rows[0][place], place) for place in range(facts.nodes.size) if place in rows[0]]
    if not starts:
        return None
    _, start = min(starts)
    way = way_along(facts, start, texts, rows)
    return facts.thread([*way, *way_to_end(facts, way[-1][2], ahead, end)])


def idle_cases(book, program):
    """The indexes of the cases of a program by which no line is ever treated in any thread of the book."""
    check_book(book)
    cases = book.program(program)
    arrows = arrows_of(book)
    met = {}
    for _, name, whom in book.answers:
        if name == program:
            for context in contexts_of(book):
                if arrows.reached(arrows.places[whom], context):
                    met[cases.taken(marks_of(context))] = True
    return tuple([index for index in range(len(cases.cases)) if index not in met])


def _ways_to(book, writer, sender, marks):
    """The ways from a standing to the end of the writer, as they are passed to be followed; None if there are none."""
    check_standing(book, writer, sender, marks)
    facts = Facts(book)
    place = facts.nodes.places[sender]
    texts = [*marks, END]
    rows = rows_ahead(facts, texts, {_end(facts, writer): 0})
    return (facts, place, texts, rows) if place in rows[0] else None


def _end(facts, writer):
    return facts.nodes.end(facts.nodes.places[writer])


def _leavings(facts, ahead):
    """All (number, fact, pair) of lines that stand on ways ahead, and the answers by which they are left out."""
    leavings = []
    for place, context, pair in facts.nodes.leavers:
        for goal in facts.goals(place, context):
            if goal in ahead:
                fact = (place, context, goal)
                leavings.append((facts.least[fact] + ahead[goal], fact, pair))
    return leavings
