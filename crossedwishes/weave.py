"""Weavings: all that small talks come to, in whatever order the letters come, some of them lost or doubled.

A node of a walk through weavings is a tuple (state, lost, twice, deeds): how many more may be lost and doubled, and
the deeds that led there.
"""

from crossedwishes.errors import TooMany
from crossedwishes.wire import bounds_of, is_deed, is_settled, mark_of, new_state, stand_of, state_behind, unlike_places

MOST_STATES = 2000

# Each weaving begins with these.
OPENINGS = (("open", "a"), ("open", "b"))


def weavings(one, other, *, tries=1, lost=0, twice=0):
    """All that weavings come to, rising, each with a weaving that comes to it."""
    bounds = bounds_of((one, other))
    nodes = [first_node(one, other, tries, lost, twice)]
    seen = {node_mark(nodes[0]): True}
    found = {}
    at = 0
    while at < len(nodes):
        node = nodes[at]
        at += 1
        if is_settled(node[0]):
            found.setdefault(stand_of(node[0][0]), list(node[3]))
        else:
            nodes.extend(new_nodes(node, bounds, tries, seen))
    return sorted(found.items())


def first_node(one, other, tries, lost, twice):
    """The node behind the openings."""
    state = new_state(one, other)
    for deed in OPENINGS:
        state = state_behind(state, deed, bounds_of((one, other)), tries)
    return (state, lost, twice, OPENINGS)


def node_mark(node):
    """What tells nodes apart: not the deeds, nor the order of the letters in the air."""
    state, lost, twice, deeds = node
    return (*mark_of(state), lost, twice)


def new_nodes(node, bounds, tries, seen):
    """The nodes behind a node that weren't seen yet; they are from now on."""
    found = []
    for deed in next_deeds(node):
        later = node_behind(node, deed, bounds, tries)
        mark = node_mark(later)
        if mark not in seen:
            if len(seen) == MOST_STATES:
                raise TooMany()
            seen[mark] = True
            found.append(later)
    return found


def next_deeds(node):
    """The deeds by which weavings go on from a node; of letters that are the same the first will do."""
    (ends, air), lost, twice, deeds = node
    if not air:
        return [("tick", "a"), ("tick", "b")]
    words = [word for word, left in (("come", 1), ("lost", lost), ("twice", twice)) if left]
    return [(word, k) for k in unlike_places(air) for word in words]


def node_behind(node, deed, bounds, tries):
    """The node behind a deed."""
    state, lost, twice, deeds = node
    now = state_behind(state, deed, bounds, tries)
    if deed[0] == "lost":
        lost -= 1
    if deed[0] == "twice":
        twice -= 1
    return (now, lost, twice, (*deeds, deed))


def comes_to_by(one, other, thing, *, tries=1, lost=0, twice=0):
    """The stand that a thing as weaving comes to, or None where it is no weaving."""
    if not isinstance(thing, list) or thing[:2] != list(OPENINGS):
        return None
    bounds = bounds_of((one, other))
    node = first_node(one, other, tries, lost, twice)
    for deed in thing[2:]:
        if not goes_on(node, deed):
            return None
        node = node_behind(node, deed, bounds, tries)
    state = node[0]
    return stand_of(state[0]) if is_settled(state) else None


def goes_on(node, thing):
    """Whether a thing is a deed by which a weaving goes on from a node."""
    (ends, air), lost, twice, deeds = node
    if is_settled((ends, air)) or not is_deed(thing):
        return False
    word, part = thing[:2]
    if word == "tick":
        return not air
    left = {"come": 1, "lost": lost, "twice": twice}
    return left.get(word, 0) > 0 and part < len(air)
