"""Names, worths, wishes, bounds and books; plans of wishes, and the asks of plans."""

from crossedwishes.plain import has_parts, is_whole

MOST_SIGNS = 8
MOST_WORTH = 9999
MOST_WORTHS = 6
MOST_WISHES = 6
MOST_BOUNDS = 8

# In a refused pair this stands where all worths of the kind are refused.
ALL_OF_KIND = -1


def is_name(thing):
    """Whether a thing is a name, of an end or a kind."""
    if not isinstance(thing, str) or not 1 <= len(thing) <= MOST_SIGNS:
        return False
    return all(["a" <= sign <= "z" for sign in thing])


def is_worth(thing):
    """Whether a thing is a worth."""
    return is_whole(thing) and 0 <= thing <= MOST_WORTH


def is_pair(thing):
    """Whether a thing is a tuple (kind, worth)."""
    return has_parts(thing, 2) and is_name(thing[0]) and is_worth(thing[1])


def are_unlike(things):
    """Whether no two of these names or whole numbers are the same."""
    return len(set(things)) == len(things)


def are_worths(thing):
    """Whether a thing is the worths of a wish or of bounds."""
    if not isinstance(thing, tuple) or not 1 <= len(thing) <= MOST_WORTHS:
        return False
    return all([is_worth(worth) for worth in thing]) and are_unlike(thing)


def is_wish(thing):
    """Whether a thing is a wish by itself; its needs may name any kind."""
    if not has_parts(thing, 4):
        return False
    kind, worths, must, needs = thing
    if not is_name(kind) or not are_worths(worths):
        return False
    return isinstance(must, bool) and (needs is None or is_pair(needs))


def needs_ahead(wish, kinds):
    """Whether a wish needs nothing, or a pair of one of these kinds."""
    needs = wish[3]
    return needs is None or needs[0] in kinds


def are_wishes(thing):
    """Whether a thing is wishes."""
    if not isinstance(thing, tuple) or len(thing) > MOST_WISHES:
        return False
    if not all([is_wish(wish) for wish in thing]):
        return False
    kinds = [wish[0] for wish in thing]
    return are_unlike(kinds) and all([needs_ahead(wish, kinds[:at]) for at, wish in enumerate(thing)])


def is_bound(thing):
    """Whether a thing is a tuple (kind, worths)."""
    return has_parts(thing, 2) and is_name(thing[0]) and are_worths(thing[1])


def are_bounds(thing):
    """Whether a thing is bounds."""
    if not isinstance(thing, tuple) or len(thing) > MOST_BOUNDS:
        return False
    if not all([is_bound(bound) for bound in thing]):
        return False
    return are_unlike([bound[0] for bound in thing])


def is_book(thing):
    """Whether a thing is a book."""
    return has_parts(thing, 2) and are_wishes(thing[0]) and are_bounds(thing[1])


def left_of(wish, refused):
    """The worths of a wish that aren't refused, in its order."""
    kind, worths = wish[:2]
    if (kind, ALL_OF_KIND) in refused:
        return ()
    return tuple([worth for worth in worths if (kind, worth) not in refused])


def plan_of(wishes, *, refused=()):
    """The plan of wishes without what is refused."""
    return tuple([(wish[0], left_of(wish, refused)) for wish in wishes])


def ask_of(wishes, plan):
    """The ask of a plan of wishes."""
    ask = []
    # The plan () is shorter than the wishes: no wish has a worth left then.
    for wish, (kind, left) in zip(wishes, plan):
        needs = wish[3]
        if left and (needs is None or needs in ask):
            ask.append((kind, left[0]))
    return tuple(ask)
