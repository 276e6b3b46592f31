"""Things that tests hand in where the document says "of anything"."""


def nested(thing, wrap, deep=29):
    for turn in range(deep):
        thing = wrap(thing)
    return thing


# Unlike things of every kind that point 2 names, at its edges too; none is a name, a worth, a wish or a pair.
STRANGE = [
    None, True, False, -1, -2, 10000, 10 ** 99, 10 ** 100 - 1, -(10 ** 99),
    "", " ", "\n", "A", "7", "None", "~" * 20000, "\n" * 20000,
    [], {}, [0], [None], {"a": 1}, {1: True}, ["a"], ["a", 1], [("a", 1)],
    (None,), (True,), ((),), ([],), ({},), ("", ()), (("a", 1), "no"),
    nested((), lambda thing: (thing,)), nested([], lambda thing: [thing]), nested({}, lambda thing: {"a": thing}),
    (0,) * 4999, [0] * 4999, (("a", 1),) * 1600, {number: number for number in range(2499)},
]


def kin(thing):
    """Each thing that Python reads alike or nearly so, but that has one part of a wrong kind."""
    if isinstance(thing, bool):
        yield int(thing)
        yield None
    elif isinstance(thing, int):
        yield str(thing)
        yield None
        yield (thing,)
        yield [thing]
        if thing in (0, 1):
            yield bool(thing)
    elif isinstance(thing, str):
        yield None
        yield (thing,)
        yield list(thing)
        yield thing.upper()
        yield thing + "\n"
        yield " " + thing
    elif isinstance(thing, tuple):
        yield list(thing)
        yield None
        for at, part in enumerate(thing):
            yield thing[:at] + thing[at + 1:] + ([],)
            for other in kin(part):
                yield thing[:at] + (other,) + thing[at + 1:]
