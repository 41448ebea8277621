"""Pairs of people whose lines can come to bear the same marks in mails from the same sender."""

from quotedthreads.arrows import bits_of
from quotedthreads.rules import END


def confused_pairs(arrows, enough):
    """Pairs of places of people who are confused somewhere, each with the first marks at which they are.

    All such pairs, or those that are confused at the first marks until there are enough of them.
    """
    pairs = {}
    group = _group_of_none(arrows)
    seen = dict(group)
    groups = [("", group)]
    # Marks are looked at in their order, so each pair of nodes is seen with its first marks.
    while groups:
        longer = []
        for marks, group in groups:
            for pair in _pairs_at(arrows, group):
                pairs.setdefault(pair, marks)
            if len(pairs) >= enough:
                return pairs
            longer.extend(_groups_behind(arrows, marks, group, seen))
        groups = longer
    return pairs


def _group_of_none(arrows):
    """The pairs of nodes to which no marks are read from one person, as a dict of all others for a node."""
    group = {}
    for place in range(arrows.size):
        found = arrows.begin(place)
        for node in bits_of(found):
            group[node] = group.get(node, 0) | found
    return group


def _pairs_at(arrows, group):
    pairs = []
    for node, others in group.items():
        ones = arrows.places_in(arrows.along(1 << node, END))
        if ones:
            found = arrows.places_in(arrows.along(others, END))
            pairs.extend([(one, other) for one in ones for other in found if one < other])
    return pairs


def _groups_behind(arrows, marks, group, seen):
    """The pairs that are new with marks of one sign more behind these, as (marks, group), in the order of the marks."""
    groups = []
    for sign in arrows.book_signs:
        behind = {}
        for node, others in group.items():
            goals = bits_of(arrows.along(1 << node, sign))
            partners = arrows.along(others, sign) if goals else 0
            for goal in goals:
                new = partners & ~seen.get(goal, 0)
                if new:
                    seen[goal] = seen.get(goal, 0) | new
                    behind[goal] = behind.get(goal, 0) | new
        if behind:
            groups.append((marks + sign, behind))
    return groups
