"""What would be unsafe on a wire, and lesser ends, by which it comes to be so."""

from crossedwishes.ends import parts_of
from crossedwishes.hearing import as_lesser_hears, heard, stands_open_with
from crossedwishes.wire import MANY_LETTERS, bounds_of, mark_of, new_state, state_behind, unlike_places
from crossedwishes.wishes import ALL_OF_KIND, ask_of


def unsafe(wire):
    """The words of what is unsafe on a wire."""
    books = wire.saved()[:2]
    ends = wire.ends()
    words = []
    if are_unlike_sets(ends):
        words.append("unlike")
    if are_beyond(ends, bounds_of(books)):
        words.append("beyond")
    if any([asks_again(end) for end in ends]):
        words.append("again")
    return words


def are_unlike_sets(ends):
    """Whether two ends stand open for one another, and what the one was given isn't what the other took."""
    one, other = [parts_of(end) for end in ends]
    if not stands_open_with(ends[0], ends[1]):
        return False
    return one["given"] != other["took"] or other["given"] != one["took"]


def are_beyond(ends, bounds):
    """Whether two ends stand open for one another by a worth that one didn't wish, or the other doesn't bear."""
    if not stands_open_with(ends[0], ends[1]):
        return False
    return is_beyond(ends[0], bounds[1]) or is_beyond(ends[1], bounds[0])


def is_beyond(end, bounds):
    """Whether a worth that an end was given isn't among those of its wish, or of the other's bounds."""
    parts = parts_of(end)
    wished = [(wish[0], worth) for wish in parts["wishes"] for worth in wish[1]]
    borne = [(kind, worth) for kind, worths in bounds for worth in worths]
    return any([pair not in wished or pair not in borne for pair in parts["given"] or ()])


def asks_again(end):
    """Whether an end isn't closed, and its ask has what is refused."""
    parts = parts_of(end)
    if parts["stand"] == "closed":
        return False
    refused = parts["refused"]
    ask = ask_of(parts["wishes"], parts["plan"])
    return any([pair in refused or (pair[0], ALL_OF_KIND) in refused for pair in ask])


def lesser_heard(end, letter, bounds, *, tries=3):
    """As heard, of an end that looks at no number of asks."""
    return heard(end, as_lesser_hears(end, letter), bounds, tries=tries)


def fall(one, other, deeds, *, tries=3, most=4):
    """The fewest deeds more behind which two lesser ends are unlike, or None where most won't do."""
    bounds = bounds_of((one, other))
    state = new_state(one, other)
    for deed in deeds:
        state = state_behind(state, deed, bounds, tries, lesser=True)
    nodes = [(state, ())]
    seen = {mark_of(state): True}
    for left in range(most, -1, -1):
        later = []
        for node in nodes:
            if are_unlike_sets(node[0][0]):
                return list(node[1])
            later.extend(new_falls(node, bounds, tries, left, seen))
        nodes = later
    return None


def new_falls(node, bounds, tries, left, seen):
    """The states, with the deeds that led there, behind a state; so many deeds are left. They are seen then."""
    state, more = node
    found = []
    for deed in deeds_on(state[1], left):
        later = state_behind(state, deed, bounds, tries, lesser=True)
        mark = mark_of(later)
        if mark not in seen and (deed[0] != "come" or brings_on(state, later)):
            seen[mark] = True
            found.append((later, (*more, deed)))
    return found


def deeds_on(air, left):
    """The deeds that may be among the fewest, where so many are left."""
    words = ["come"] if left > 0 else []
    # Letters alone make ends unlike, so one is doubled only if both can come yet, and one is lost only to make room.
    if left > 2 and len(air) < MANY_LETTERS:
        words.append("twice")
    if left > 3 and len(air) >= MANY_LETTERS:
        words.append("lost")
    return [(word, k) for k in unlike_places(air) for word in words]


def brings_on(state, later):
    """Whether a letter that came changed an end, or a letter was written."""
    return later[0] != state[0] or len(later[1]) >= len(state[1])
