"""Ways to the end of a writer: the least numbers of answers for them, and the facts by which they go."""

from heapq import heappop, heappush


def ahead_of(facts, end):
    """For each node from which any marks and the end are read to this end: the least number for that."""
    ahead = {}
    queue = [(0, end)]
    while queue:
        number, goal = heappop(queue)
        if goal not in ahead:
            ahead[goal] = number
            for node, sign in facts.coming(goal):
                heappush(queue, (number + facts.least[node, sign, goal], node))
    return ahead


def rows_ahead(facts, texts, ahead):
    """The least numbers for reading one sign of each text, one behind the other, and then what is ahead.

    The first row is for all texts, the one behind it for all but the first, and so on.
    """
    rows = [ahead]
    for signs in reversed(texts):
        rows.append(_row_before(facts, signs, rows[-1]))
    return rows[::-1]


def way_along(facts, node, texts, rows):
    """The facts by which one sign of each text is read from a node, with the least numbers."""
    way = []
    for index, signs in enumerate(texts):
        found = [fact for fact in facts.leaving(node) if fact[1] in signs]
        way.append(_first_with(facts, found, rows[index][node], rows[index + 1]))
        node = way[-1][2]
    return way


def way_to_end(facts, node, ahead, end):
    """The facts by which any marks and the end are read from a node, with the least number."""
    way = []
    while node != end:
        way.append(_first_with(facts, facts.leaving(node), ahead[node], ahead))
        node = way[-1][2]
    return way


def most_along(facts, node, texts, rows):
    """The greatest number for reading one sign of each text from a node, None if there is none."""
    steps = []
    nodes = [node]
    for index, signs in enumerate(texts):
        found = [fact for start in nodes for fact in facts.leaving(start) if fact[1] in signs]
        steps.append([fact for fact in found if fact[2] in rows[index + 1]])
        nodes = list({goal: True for _, _, goal in steps[-1]})
    greatest = facts.greatest([fact for step in steps for fact in step])
    if greatest is None:
        return None
    most = {node: 0}
    for step in steps:
        further = {}
        for start, sign, goal in step:
            number = most[start] + greatest[start, sign, goal]
            further[goal] = max(number, further.get(goal, number))
        most = further
    return max(list(most.values()))


def _row_before(facts, signs, ahead):
    row = {}
    for goal, number in ahead.items():
        for node, sign in facts.coming(goal):
            if sign in signs:
                total = number + facts.least[node, sign, goal]
                row[node] = min(total, row.get(node, total))
    return row


def _first_with(facts, found, number, ahead):
    """The first fact with which the least number is the one that is told."""
    return [fact for fact in found if fact[2] in ahead and facts.least[fact] + ahead[fact[2]] == number][0]
