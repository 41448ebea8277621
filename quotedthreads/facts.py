"""What is read from node to node in a book, and with how many answers."""

from heapq import heappop, heappush

from quotedthreads.nodes import Nodes
from quotedthreads.rules import END


class Facts:
    """Facts (node, text, goal): the text is read from the node to the goal.

    A text is a sign, the end, a context that is read from a person, or nothing, where a rule makes
    nothing of a context. The number of a fact is how many answers lead from a line that stands at the
    goal, its marks being read from there on, to one that stands at the node, with the text ahead of
    these marks. A fact that can be made in several ways has several numbers.
    """

    def __init__(self, book):
        self.nodes = Nodes(book)
        # The least number of each fact.
        self.least = {}
        self._signs = book.signs + END
        self._goals = {}
        self._coming = {}
        self._offered = {}
        self._queue = []
        self._settle()

    def goals(self, node, text):
        """The nodes to which a text is read from a node."""
        return list(self._goals.get((node, text), ()))

    def leaving(self, node):
        """The facts of one sign, or of the end, that lead from a node."""
        return [(node, sign, goal) for sign in self._signs for goal in self.goals(node, sign)]

    def coming(self, goal):
        """The pairs (node, sign) of the facts of one sign, or of the end, that lead to a node."""
        return [(node, text) for node, text in self._coming.get(goal, ()) if text]

    def thread(self, way):
        """The thread, of the least number of answers, of facts of which each leads to the node of the next one."""
        thread = []
        makings = {}
        # What is read last was made first, and a pair answers when the parts before it are made.
        todo = list(way)
        while todo:
            item = todo.pop()
            if len(item) == 2:
                thread.append(item)
            else:
                if item not in makings:
                    makings[item] = self._least_making(item)
                todo.extend(makings[item])
        return tuple(thread)

    def greatest(self, facts):
        """The greatest numbers of these facts and of those that they are made of, as a dict.

        None if one of them has no greatest: then it is needed for itself, with an answer more each time.
        """
        makings = self._needed(facts)
        users, waiting = _users_of(makings)
        greatest = {}
        ready = [fact for fact in makings if waiting[fact] == 0]
        while ready:
            fact = ready.pop()
            greatest[fact] = max([_number_of(making, greatest) for making in makings[fact]])
            for user in users[fact]:
                waiting[user] -= 1
                if waiting[user] == 0:
                    ready.append(user)
        return greatest if len(greatest) == len(makings) else None

    def _settle(self):
        """Finds all facts with their least numbers.

        The fact with the least number of all that are offered is settled. An arrow to an inner node is
        offered, with no answers, only when a rule needs it. That is soon enough: nothing is read to the
        node before, and what is read on from there takes an answer more than what the rule was used on.
        """
        for place in range(self.nodes.size):
            self._offer((place, END, self.nodes.end(place)), 0)
        while self._queue:
            number, fact = heappop(self._queue)
            if fact not in self.least:
                self._keep(fact, number)

    def _offer(self, fact, number):
        if fact not in self._offered or number < self._offered[fact]:
            self._offered[fact] = number
            heappush(self._queue, (number, fact))

    def _keep(self, fact, number):
        self.least[fact] = number
        node, text, goal = fact
        self._goals.setdefault((node, text), []).append(goal)
        for start, sign in self.nodes.results.get((node, text), ()):
            self._offer((start, sign, goal), number + 1)
            self._open(start)
        if len(text) <= 1:
            self._coming.setdefault(goal, []).append((node, text))
            self._join(fact, number)

    def _open(self, node):
        """Offers the arrows that lead to an inner node, through those ahead of it."""
        while node in self.nodes.above:
            goal = node
            node, sign = self.nodes.above[goal]
            self._offer((node, sign, goal), 0)

    def _join(self, fact, number):
        """Offers what is read from people along this fact and one that is kept already."""
        node, text, goal = fact
        if node < self.nodes.size:
            for sign in self._signs:
                for further in self.goals(goal, sign):
                    self._offer((node, text + sign, further), number + self.least[goal, sign, further])
        else:
            for place, read in self._coming.get(node, ()):
                if place < self.nodes.size:
                    self._offer((place, read + text, goal), number + self.least[place, read, node])

    def _makings(self, fact):
        """All ways in which a fact is made, each as the pair of an answer, if there is one, and parts.

        The parts stand in the order in which they are read; the answer is made when all of them are.
        """
        node, text, goal = fact
        if len(text) > 1:
            return self._joined(node, text[0], text[1], goal)
        makings = []
        if self.nodes.above.get(goal) == (node, text) or (text == END and self.nodes.end(node) == goal):
            makings.append(())
        for place, context, pair in self.nodes.makers.get((node, text), ()):
            if (place, context, goal) in self.least:
                makings.append((pair, (place, context, goal)))
        if text:
            makings.extend(self._joined(node, "", text, goal))
        return makings

    def _joined(self, node, first, second, goal):
        joined = [((node, first, between), (between, second, goal)) for between in self.goals(node, first)]
        return [parts for parts in joined if parts[1] in self.least]

    def _least_making(self, fact):
        number = self.least[fact]
        return [making for making in self._makings(fact) if _number_of(making, self.least) == number][0]

    def _needed(self, facts):
        """The makings of these facts, of their parts, and so on."""
        makings = {}
        todo = list(facts)
        while todo:
            fact = todo.pop()
            if fact not in makings:
                makings[fact] = self._makings(fact)
                todo.extend([part for making in makings[fact] for part in making if len(part) == 3])
        return makings


def _number_of(making, numbers):
    """The number of a fact that is made so: an answer counts 1."""
    return sum([1 if len(part) == 2 else numbers[part] for part in making])


def _users_of(makings):
    """For each fact, those that it is a part of, and the number of its own parts."""
    users = {fact: [] for fact in makings}
    waiting = {}
    for fact, rows in makings.items():
        parts = {part: True for making in rows for part in making if len(part) == 3}
        waiting[fact] = len(parts)
        for part in parts:
            users[part].append(fact)
    return (users, waiting)
