"""The arrows along which the marks of lines are read, and what is read along them."""

from quotedthreads.nodes import Nodes
from quotedthreads.rules import END


class Arrows:
    """The arrows of a book: lines of a person reach (sender, marks) exactly if the marks and the end are
    read from the sender to the end of this person.

    Several nodes together are an integer, in which the bit of each of them is set. No arrow leads to a
    person, and only from people arrows lead by which nothing is read: they can only stand first.
    """

    def __init__(self, book):
        nodes = Nodes(book)
        self.size = nodes.size
        self.places = nodes.places
        self.book_signs = book.signs
        self._ends = [1 << nodes.end(place) for place in range(nodes.size)]
        self._rows = [{} for _ in range(nodes.count)]
        for place, end in enumerate(self._ends):
            self._rows[place][END] = end
        self._complete(nodes)

    def begin(self, place):
        """The nodes to which nothing is read from a person."""
        return (1 << place) | self._rows[place].get("", 0)

    def along(self, found, sign):
        """The nodes to which a sign is read from these nodes."""
        further = 0
        for node in bits_of(found):
            further |= self._rows[node].get(sign, 0)
        return further

    def reached(self, place, text):
        """The nodes to which a string is read from a person."""
        found = self.begin(place)
        for sign in text:
            found = self.along(found, sign)
        return found

    def writers_at(self, place, marks):
        """The places of all who can be the writer of a line with these marks from the person at a place."""
        return self.places_in(self.reached(place, marks + END))

    def places_in(self, found):
        """The places of the people whose ends are among these nodes."""
        return [place for place, end in enumerate(self._ends) if found & end]

    def before(self, found, signs):
        """The nodes from which one of these signs is read to one of these nodes."""
        nodes = 0
        for node, row in enumerate(self._rows):
            if any([row.get(sign, 0) & found for sign in signs]):
                nodes |= 1 << node
        for place in range(self.size):
            if self.begin(place) & nodes:
                nodes |= 1 << place
        return nodes

    def leading_to(self, place):
        """The nodes from which any marks and the end are read to the end of the person at a place."""
        nodes, more = 0, self.before(self._ends[place], END)
        while nodes != more:
            nodes = more
            more = nodes | self.before(nodes, self.book_signs)
        return nodes

    def most_signs(self, place):
        """The greatest number of signs that are read to the end of the person, None if there is none."""
        people = (1 << self.size) - 1
        many = 0
        nodes = self.leading_to(place)
        more = self.before(nodes, self.book_signs)
        # From the nodes of each turn a sign more is read than from those of the turn before.
        while more & people:
            if more == nodes:
                return None
            many += 1
            nodes, more = more, self.before(more, self.book_signs)
        return many

    def triples_to(self, place):
        """All arrows (node, sign, node) on ways to the end of the person at a place."""
        kept = self.leading_to(place) | self._ends[place]
        triples = []
        for node, row in enumerate(self._rows):
            for sign, found in row.items():
                triples.extend([(node, sign, goal) for goal in bits_of(found & kept)])
        return triples

    def _complete(self, nodes):
        """Makes arrows by the rules as long as something new can be read."""
        known = {}
        more = True
        while more:
            more = False
            for read, goals in nodes.results.items():
                place, context = read
                found = self.reached(place, context)
                if found != known.get(read, 0):
                    known[read] = found
                    more = True
                    for node, sign in goals:
                        self._add(nodes, node, sign, found)

    def _add(self, nodes, node, sign, found):
        row = self._rows[node]
        row[sign] = row.get(sign, 0) | found
        while node in nodes.above:
            inner = node
            node, sign = nodes.above[inner]
            row = self._rows[node]
            row[sign] = row.get(sign, 0) | (1 << inner)


def arrows_of(book):
    """The arrows of a book, which keeps them: many questions are asked about one book."""
    return book.once(_new_arrows)


def _new_arrows(book):
    return Arrows(book)


def bits_of(found):
    """The numbers of the bits that are set."""
    numbers = []
    while found:
        lowest = found & -found
        numbers.append(lowest.bit_length() - 1)
        found ^= lowest
    return numbers
