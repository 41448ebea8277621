"""The checker: whether a certificate shows that a claim about a book is true.

It plays threads and looks at machines, arrow by arrow; it does not ask how they were found.
"""

from quotedthreads.books import Book
from quotedthreads.errors import InvalidText, InvalidThread
from quotedthreads.forms import is_integer, is_marks, is_sign
from quotedthreads.limits import SIGNS
from quotedthreads.rules import END, rules_of
from quotedthreads.threads import led

# What claims with each word have behind the text of the book: people, marks, a number.
_FORMS = {"can": "PPM", "confused": "PMPP", "gone": "P", "never": "PPM", "kept": "P", "within": "PN"}
# The signs of arrows along which nothing is read.
_NOTHING = ("",)


def accepts(claim, certificate):
    """Whether the claim is one for the checker and the certificate is one for it."""
    book = _book_of(claim)
    if book is None:
        return False
    word, _, *parts = claim
    if not _have_form(book, parts, _FORMS[word]):
        return False
    if word == "can":
        return _leads_to(book, parts[0], certificate, (parts[1], parts[2]))
    if word == "confused":
        return _confuse(book, parts, certificate)
    if word == "gone":
        return _leads_to(book, parts[0], certificate, None)
    return _accepts_machine(book, word, parts, certificate)


def _book_of(claim):
    """The book of a claim with a known word and so many elements, None if it is no such claim."""
    if not isinstance(claim, tuple) or len(claim) < 2 or not isinstance(claim[0], str) or claim[0] not in _FORMS:
        return None
    try:
        return Book.read(claim[1])
    except InvalidText:
        return None


def _have_form(book, parts, form):
    return len(parts) == len(form) and all([_is_part(book, part, kind) for part, kind in zip(parts, form)])


def _is_part(book, value, kind):
    if kind == "P":
        return isinstance(value, str) and value in book.names
    if kind == "M":
        return is_marks(value)
    return is_integer(value) and value >= 0


def _leads_to(book, writer, thread, standing):
    try:
        standings = led(book, writer, thread)
    except InvalidThread:
        return False
    return standings[-1] == standing


def _confuse(book, parts, threads):
    sender, marks, one, other = parts
    if one == other or not isinstance(threads, tuple) or len(threads) != 2:
        return False
    standing = (sender, marks)
    return _leads_to(book, one, threads[0], standing) and _leads_to(book, other, threads[1], standing)


def _accepts_machine(book, word, parts, machine):
    names = book.names
    if not isinstance(machine, tuple) or not all([_is_triple(names, value) for value in machine]):
        return False
    arrows = _arrows_of(machine)
    end = _end_of(arrows, machine, parts[0])
    rules = rules_of(book)
    known = {}
    if end is None or not _is_closed(arrows, known, rules):
        return False
    if word == "never":
        return end not in _read(arrows, parts[1], parts[2] + END)
    if word == "kept":
        leaving = [(whom, context) for whom, context, _, _, made in rules if made is None]
        return not any([_read_short(arrows, known, whom, context) for whom, context in leaving])
    return not _reads_more(machine, end, parts[1], names)


def _is_triple(names, value):
    if not isinstance(value, tuple) or len(value) != 3:
        return False
    start, sign, goal = value
    if not isinstance(sign, str) or not (sign in ("", END) or is_sign(sign)):
        return False
    return _is_node(names, start) and _is_node(names, goal)


def _is_node(names, value):
    return is_integer(value) or (isinstance(value, str) and value in names)


def _arrows_of(triples):
    """Where arrows lead, as a dict of lists for (node, sign)."""
    arrows = {}
    for start, sign, goal in triples:
        arrows.setdefault((start, sign), []).append(goal)
    return arrows


def _end_of(arrows, machine, writer):
    """The end of a machine, None if there is none or more than one."""
    starts = {start: True for start, _, _ in machine}
    ends = [node for node in _read(arrows, writer, END) if is_integer(node) and node not in starts]
    return ends[0] if len(ends) == 1 else None


def _is_closed(arrows, known, rules):
    for whom, context, who, _, made in rules:
        if made is not None:
            nodes = _read_short(arrows, known, whom, context)
            # Most contexts are read to no node: what is made of them need not be read.
            if nodes:
                reached = _read_short(arrows, known, who, made)
                if not all([node in reached for node in nodes]):
                    return False
    return True


def _read_short(arrows, known, node, text):
    """What `_read` returns for a string of a rule, kept among what is known: many of these begin alike."""
    if (node, text) not in known:
        if text:
            known[node, text] = _step(arrows, _read_short(arrows, known, node, text[:-1]), text[-1:])
        else:
            known[node, text] = _read(arrows, node, text)
    return known[node, text]


def _read(arrows, node, text):
    """The nodes to which a string is read from a node, as the keys of a dict."""
    found = _along(arrows, [node], _NOTHING)
    for sign in text:
        found = _step(arrows, found, sign)
    return found


def _step(arrows, nodes, signs):
    """The nodes to which one of the signs is read from these nodes."""
    goals = [goal for node in nodes for sign in signs for goal in arrows.get((node, sign), ())]
    return _along(arrows, goals, _NOTHING)


def _along(arrows, nodes, signs):
    """These nodes and all to which arrows with these signs lead from them, one behind the other."""
    found = {}
    todo = list(nodes)
    while todo:
        node = todo.pop()
        if node not in found:
            found[node] = True
            todo.extend([goal for sign in signs for goal in arrows.get((node, sign), ())])
    return found


def _reads_more(machine, end, many, names):
    """Whether from one of the people more than so many signs, and then the end, are read to the end."""
    back = _arrows_of([(goal, sign, start) for start, sign, goal in machine])
    before_end = _step(back, _along(back, [end], _NOTHING), END)
    nodes = _along(back, before_end, ("", *SIGNS))
    more = _step(back, nodes, SIGNS)
    # With a sign more the nodes get fewer, or stay the same with ever more signs.
    while many > 0 and len(more) < len(nodes):
        nodes, more = more, _step(back, more, SIGNS)
        many -= 1
    return any([name in more for name in names])
