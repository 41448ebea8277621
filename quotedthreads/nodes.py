"""The nodes between which the marks of a book are read."""

from quotedthreads.rules import rules_of


class Nodes:
    """The nodes of a book, as numbers: its people by their places, an end for each of them, and inner nodes.

    An inner node stands between two signs that a rule makes. Rules by which the same person answers
    share it, if they make the same signs up to it: what is read from there on is what one of them has
    left. The lines of all writers share all inner nodes: only at the ends it shows whose they are.
    """

    def __init__(self, book):
        self.size = len(book.names)
        self.places = {name: place for place, name in enumerate(book.names)}
        self.count = 2 * self.size
        # The node and the sign that lead to an inner node.
        self.above = {}
        # The last arrows (node, sign) that rules make, for a person who is answered and a context.
        self.results = {}
        # The rules (place, context, pair) that make such an arrow.
        self.makers = {}
        # The rules (place, context, pair) by which lines are left out.
        self.leavers = []
        deeper = {}
        for whom, context, who, program, made in rules_of(book):
            read = (self.places[whom], context)
            if made is None:
                self.leavers.append((*read, (who, program)))
            else:
                arrow = self._arrow_to(self.places[who], made, deeper)
                self.results.setdefault(read, {})[arrow] = True
                self.makers.setdefault(arrow, []).append((*read, (who, program)))

    def end(self, place):
        return self.size + place

    def _arrow_to(self, node, made, deeper):
        """The last arrow that a rule makes; the nodes ahead of it are added where they are new."""
        for sign in made[:-1]:
            if (node, sign) not in deeper:
                deeper[node, sign] = self.count
                self.above[self.count] = (node, sign)
                self.count += 1
            node = deeper[node, sign]
        return (node, made[-1:])
