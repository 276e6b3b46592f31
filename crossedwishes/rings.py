"""Lesser ends, which forget what was refused and so may ask in a ring."""

from crossedwishes.answers import answer
from crossedwishes.plain import is_same
from crossedwishes.wishes import ask_of


def lesser_course(wishes, bounds):
    """What a lesser end's course with answers most liked comes to: a ring, an agreed ask or a failing."""
    stand = tuple([worths[0] for kind, worths, must, needs in wishes])
    places = {}
    asks = []
    while stand not in places:
        places[stand] = len(asks)
        ask = lesser_ask(wishes, stand)
        asks.append(ask)
        word, pairs = answer(bounds, ask)
        if word == "yes":
            return ("agreed", ask)
        told = dict(pairs)
        if word == "no":
            lost = [kind for kind, worths, must, needs in wishes if must and kind in told]
            if lost:
                return ("failed", lost[0])
        stand = stand_behind(wishes, stand, word, told)
    first = places[stand]
    return ("ring", asks[:first], asks[first:])


def lesser_ask(wishes, stand):
    """What a lesser end asks: of each wish the worth it stands at, None where it is left out."""
    plan = [(wish[0], () if worth is None else (worth,)) for wish, worth in zip(wishes, stand)]
    return ask_of(wishes, tuple(plan))


def stand_behind(wishes, stand, word, told):
    """How a lesser end stands behind no or rather, which told these worths of kinds."""
    if word == "no":
        return tuple([None if wish[0] in told else asked for wish, asked in zip(wishes, stand)])
    return tuple([worth_behind(wish, asked, told) for wish, asked in zip(wishes, stand)])


def worth_behind(wish, asked, told):
    """The worth of a wish that a lesser end would ask behind rather."""
    kind, worths = wish[:2]
    if kind not in told:
        return asked
    if told[kind] in worths:
        return told[kind]
    return worths[(worths.index(asked) + 1) % len(worths)]


def lets_ring(wishes, bounds, thing):
    """Whether a thing is what lesser_course tells."""
    return is_same(thing, lesser_course(wishes, bounds))
