"""How bounds answer an ask, and what an answer to a plan's ask comes to."""

from crossedwishes.plain import has_parts, is_same, is_whole
from crossedwishes.wishes import ALL_OF_KIND, ask_of, is_worth


def answer(bounds, ask):
    """The answer of bounds to an ask, most liked."""
    known = dict(bounds)
    strange = tuple([pair for pair in ask if pair[0] not in known])
    if strange:
        return ("no", strange)
    liked = tuple([(kind, known[kind][0]) for kind, worth in ask if worth not in known[kind]])
    if liked:
        return ("rather", liked)
    return ("yes", ask)


def is_answer(bounds, ask, thing):
    """Whether a thing is an answer of bounds to an ask, freely."""
    told = answer(bounds, ask)
    word, liked = told
    if word != "rather":
        return is_same(thing, told)
    if not has_parts(thing, 2) or thing[0] != word or not has_parts(thing[1], len(liked)):
        return False
    known = dict(bounds)
    return all([is_choice(pair, kind, known[kind]) for pair, (kind, worth) in zip(thing[1], liked)])


def is_choice(thing, kind, worths):
    """Whether a thing is a pair of the kind and one of the worths."""
    return has_parts(thing, 2) and thing[0] == kind and is_whole(thing[1]) and thing[1] in worths


def behind(wishes, plan, thing):
    """What a thing as answer to the plan's ask comes to, or None."""
    ask = ask_of(wishes, plan)
    if is_same(thing, ("yes", ask)):
        return ("agreed", ask)
    if not is_refusal(ask, thing):
        return None
    word, pairs = thing
    asked = dict(ask)
    left = dict(plan)
    must = [wish[0] for wish in wishes if wish[2]]
    for kind, worth in pairs:
        left[kind] = () if word == "no" else left_behind(left[kind], asked[kind], worth)
        if not left[kind] and kind in must:
            return ("failed", kind)
    return ("plan", tuple(left.items()), refused_by(word, pairs, asked))


def is_refusal(ask, thing):
    """Whether a thing answers the ask by no or rather, as an end takes it that knows no bounds."""
    if not has_parts(thing, 2) or not isinstance(thing[1], tuple):
        return False
    word, pairs = thing
    if not all([has_parts(pair, 2) for pair in pairs]):
        return False
    kinds = [pair[0] for pair in pairs]
    asked = tuple([pair for pair in ask if pair[0] in kinds])
    # Kinds that are told twice or weren't asked make the two unlike in length.
    if not asked or len(pairs) != len(asked):
        return False
    if word == "no":
        return is_same(pairs, asked)
    return word == "rather" and all([is_other(told, pair) for told, pair in zip(pairs, asked)])


def is_other(told, pair):
    """Whether what is told has the kind of the asked pair, and another worth."""
    return told[0] == pair[0] and is_worth(told[1]) and told[1] != pair[1]


def left_behind(left, asked, told):
    """What is left behind a rather: without the asked worth, the told one first if it is left."""
    rest = [worth for worth in left if worth != asked]
    if told in rest:
        rest.remove(told)
        rest.insert(0, told)
    return tuple(rest)


def refused_by(word, pairs, asked):
    """What an answer refused, rising."""
    return tuple(sorted([(kind, ALL_OF_KIND if word == "no" else asked[kind]) for kind, worth in pairs]))
