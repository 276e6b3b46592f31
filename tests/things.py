"""What several tests hand in: wishes, answers, and things where the document says "of anything"."""

import itertools

from crossedwishes.answers import behind
from crossedwishes.wishes import ask_of, plan_of


def wish(kind, worths=(1,), must=False, needs=None):
    return (kind, worths, must, needs)


def free_answers(bounds, ask):
    """All answers of bounds to an ask, each written out choice by choice."""
    known = {kind: worths for kind, worths in bounds}
    strange = [pair for pair in ask if pair[0] not in known]
    unfit = [pair for pair in ask if pair[0] in known and pair[1] not in known[pair[0]]]
    if strange:
        return [("no", tuple(strange))]
    if not unfit:
        return [("yes", ask)]
    choices = [[(kind, worth) for worth in known[kind]] for kind, asked in unfit]
    return [("rather", pairs) for pairs in itertools.product(*choices)]


def nested(thing, wrap, deep=29):
    for turn in range(deep):
        thing = wrap(thing)
    return thing


def all_courses(wishes, bounds, plan=None):
    """Each course, with what it comes to."""
    plan = plan_of(wishes) if plan is None else plan
    ask = ask_of(wishes, plan)
    found = []
    for said in free_answers(bounds, ask):
        came = behind(wishes, plan, said)
        if came[0] == "plan":
            found.extend([([(ask, said)] + steps, end) for steps, end in all_courses(wishes, bounds, came[1])])
        else:
            found.append(([(ask, said)], came))
    return found


# As point 12 names and orders them.
END_PARTS = "name wishes stand turn yours number plan refused given heard took last tries echoes why".split()


def part(end, name):
    return end[END_PARTS.index(name)]


def with_parts(end, **parts):
    """An end with some parts otherwise; tests write out what an event is to change, and so that all else stays."""
    assert set(parts) <= set(END_PARTS)
    return tuple([parts.get(name, old) for name, old in zip(END_PARTS, end, strict=True)])


def closed_as(end, why, **parts):
    """What point 13 says of an end that is closed: turn, yours, wishes and echoes stay, the rest is as in a new one."""
    kept = {name: part(end, name) for name in ("turn", "yours", "echoes")}
    new = (part(end, "name"), part(end, "wishes"), "closed", 0, 0, 0, (), (), None, 0, None, None, 0, 0, why)
    return with_parts(with_parts(new, **kept), **parts)


# As the interface lists them.
TESTS = "closed open given own third elder newer mine tries late heard its agreed planned failed must".split()
ACTS = "turn learn anew ask here there bye answer last echo less full give plan wish on".split()
ACTS += ["end closed", "end tries", "end failed", "end echo", "end bye"]

# Wishes and bounds that agree, fail and do now the one, now the other, as they are put together.
SMALL_WISHES = [
    (),
    (wish("a", (1, 2)),),
    (wish("a", (3, 1, 2), True),),
    (wish("b", (3, 1, 2), True), wish("a", (1, 0), False, ("b", 1)), wish("c", (7, 2))),
    (wish("a", (1, 2)), wish("b", (1, 2), False, ("a", 2)), wish("c", (1, 2), True, ("b", 2))),
    (wish("c", (2, 0, 1)), wish("a", (0, 1, 2))),
    (wish("a", (1, 2, 3)), wish("d", (4,), True, ("a", 2))),
    (wish("d", (1,), True), wish("a", (1,), True)),
]
SMALL_BOUNDS = [
    (),
    (("a", (2, 3)),),
    (("a", (2, 1)), ("b", (2, 4)), ("c", (2, 9))),
    (("c", (5, 6)), ("a", (5, 0))),
    (("a", (9, 8)), ("b", (1, 9)), ("c", (4,))),
    (("d", (1,)), ("a", (1, 2))),
]
SMALL = [(wishes, bounds) for wishes in SMALL_WISHES for bounds in SMALL_BOUNDS]


# Books whose ends agree, and some that don't.
BOOKS = [
    ((wish("a", (3, 1, 2), True), wish("b", (1,), False, ("a", 1))), (("c", (2, 1)), ("d", (0,)))),
    ((wish("c", (5, 1)), wish("e", (1,)), wish("d", (3, 0), True)), (("a", (1, 2)), ("b", (1,)))),
    ((wish("d", (1, 2), True),), (("a", (7,)), ("c", (1,)))),
    ((), ()),
    ((wish("a", (1, 2)), wish("c", (1, 2), True, ("a", 2))), (("a", (1, 2, 3)), ("b", (5,)), ("c", (1, 5)), ("d", (2, 0)), ("e", (1,)))),
]


def other_name(who):
    return "b" if who == "a" else "a"


def worths_of(wishes):
    return sum([len(one[1]) for one in wishes])


LED_WORDS = ("open", "tick", "wish", "close", "come", "lost", "twice", "back")


def some_deed(dice, wire, wishes=(), weights=(6, 4, 1, 1, 24, 2, 4, 1)):
    """A deed that can be done on a wire; None where the dice fell on one that can't."""
    word = dice.choices(LED_WORDS, weights)[0]
    who = dice.choice("ab")
    is_closed = part(wire.ends()["ab".index(who)], "stand") == "closed"
    if word == "wish":
        return ("wish", who, dice.choice(wishes)) if wishes else None
    if word == "tick" or word == "open" and is_closed or word == "close" and not is_closed:
        return (word, who)
    if word in ("open", "close") or not wire.air() or word == "twice" and len(wire) > 30:
        return None
    return (word, dice.randrange(len(wire)))


def lead(dice, wire, many, wishes=()):
    """Does so many deeds on a wire, as the dice fall."""
    while many:
        deed = some_deed(dice, wire, wishes)
        if deed is not None:
            wire.do(deed)
            many -= 1


# Unlike things of every kind that point 2 names, at its edges too; none is a name, a worth, a wish or a pair.
STRANGE = [
    None, True, False, -1, -2, 10000, 10 ** 99, 10 ** 100 - 1, -(10 ** 99),
    "", " ", "\n", "A", "7", "None", "~" * 20000, "\n" * 20000,
    [], {}, [0], [None], {"a": 1}, {1: True}, ["a"], ["a", 1], [("a", 1)],
    (None,), (True,), ((),), ([],), ({},), ("", ()), (("a", 1), "no"),
    nested((), lambda thing: (thing,)), nested([], lambda thing: [thing]), nested({}, lambda thing: {"a": thing}),
    (0,) * 4999, [0] * 4999, (("a", 1),) * 1600, {number: number for number in range(2499)},
]


def kin(thing):
    """Each thing that Python reads alike or nearly so, but that has one part of a wrong kind."""
    if isinstance(thing, bool):
        yield int(thing)
        yield None
    elif isinstance(thing, int):
        yield str(thing)
        yield None
        yield (thing,)
        yield [thing]
        if thing in (0, 1):
            yield bool(thing)
    elif isinstance(thing, str):
        yield None
        yield (thing,)
        yield list(thing)
        yield thing.upper()
        yield thing + "\n"
        yield " " + thing
    elif isinstance(thing, (tuple, list)):
        same, other = (tuple, list) if isinstance(thing, tuple) else (list, tuple)
        yield other(thing)
        yield None
        for at, part in enumerate(thing):
            yield thing[:at] + thing[at + 1:] + same([[]])
            for unlike in kin(part):
                yield thing[:at] + same([unlike]) + thing[at + 1:]
