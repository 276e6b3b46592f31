"""Talks: lists of a wire's deeds, done from the first on, or from a middle that was saved."""

from crossedwishes.ends import PARTS, parts_of
from crossedwishes.errors import NoDeed, NoLetter, NoSaved, NotClosed, NotOpen, NoTalk, TooMany
from crossedwishes.hearing import stands_open_with
from crossedwishes.letters import are_pairs, is_from, is_letter
from crossedwishes.plain import has_parts, is_whole
from crossedwishes.wire import NAMES, Wire, stand_of, wire_at
from crossedwishes.wishes import ALL_OF_KIND, are_unlike, are_wishes, is_book, is_name, is_worth

MOST_TRIES = 9
MOST_SAVED = 200

STANDS = ("closed", "asking", "open")
# The parts of an end that are whole numbers.
COUNTS = ("turn", "yours", "number", "heard", "echoes", "tries")
ANSWER_WORDS = ("yes", "no", "rather")


def is_talk(one, other, thing, *, tries=3):
    """Whether a thing is a talk that can be done, all of it."""
    if not isinstance(thing, list):
        return False
    try:
        wire_behind(one, other, thing, tries=tries)
    except NoTalk:
        return False
    return True


def wire_behind(one, other, talk, *, tries=3):
    """The wire behind a talk."""
    return led(Wire(one, other, tries=tries), talk)


def stands_behind(one, other, talk, *, tries=3):
    """How both ends stand together behind each deed of a talk."""
    return [stand_of(saved[3]) for saved in saved_behind(one, other, talk, tries)]


def longest_alone(one, other, talk, *, tries=3):
    """The greatest number of deeds in a row behind which an end stands open, and not with the other one."""
    most = many = 0
    for saved in saved_behind(one, other, talk, tries):
        many = many + 1 if is_one_alone(saved[3]) else 0
        most = max(most, many)
    return most


def wire_of(saved):
    """The wire that has saved a thing."""
    if not is_saved(saved):
        raise NoSaved()
    return wire_at(saved)


def told_on(saved, deeds):
    """The wire that has saved a thing, behind deeds more."""
    return led(wire_of(saved), deeds)


def first_apart(one, other, talk, mate, *, tries=3):
    """The number of the first deed behind which the wires of two talks are unlike, or None."""
    ways = saved_behind(one, other, talk, tries)
    others = saved_behind(one, other, mate, tries)
    for at, (way, beside) in enumerate(zip(ways, others)):
        # Wires are alike where they have saved the same.
        if way != beside:
            return at
    return None if len(ways) == len(others) else min(len(ways), len(others))


def led(wire, talk):
    """A wire that all deeds of a talk were done on."""
    for at, deed in enumerate(talk):
        do_in_talk(wire, at, deed)
    return wire


def saved_behind(one, other, talk, tries):
    """What a wire has saved behind each deed of a talk."""
    wire = Wire(one, other, tries=tries)
    found = []
    for at, deed in enumerate(talk):
        do_in_talk(wire, at, deed)
        found.append(wire.saved())
    return found


def do_in_talk(wire, at, deed):
    """Does the deed of a talk that has this number."""
    try:
        wire.do(deed)
    except (NoDeed, NoLetter, NotClosed, NotOpen, TooMany):
        raise NoTalk(at) from None


def is_one_alone(ends):
    """Whether an end stands open, and the two don't stand open with one another."""
    return any([end[2] == "open" for end in ends]) and not stands_open_with(ends[0], ends[1])


def is_saved(thing):
    """Whether a thing is what a wire may have saved, by its form."""
    if not has_parts(thing, 5):
        return False
    one, other, tries, ends, air = thing
    if not is_book(one) or not is_book(other) or not is_from(tries, 1) or tries > MOST_TRIES:
        return False
    if not has_parts(ends, len(NAMES)):
        return False
    return all([is_end(end, name, tries) for end, name in zip(ends, NAMES)]) and is_air(air)


def is_end(thing, name, tries):
    """Whether a thing is an end of this name with at most so many tries, by its form."""
    if not has_parts(thing, len(PARTS)) or thing[0] != name:
        return False
    parts = parts_of(thing)
    if not are_wishes(parts["wishes"]) or parts["stand"] not in STANDS:
        return False
    if not all([is_from(parts[part], 0) for part in COUNTS]) or parts["tries"] > tries:
        return False
    if not is_plan(parts["plan"], parts["wishes"]) or not is_refused(parts["refused"]):
        return False
    if not all([parts[part] is None or are_pairs(parts[part]) for part in ("given", "took")]):
        return False
    return is_last(parts["last"], name) and isinstance(parts["why"], str)


def is_plan(thing, wishes):
    """Whether a thing is a plan of wishes, or ()."""
    if has_parts(thing, 0):
        return True
    return has_parts(thing, len(wishes)) and all([is_left(part, wish) for part, wish in zip(thing, wishes)])


def is_left(thing, wish):
    """Whether a thing is a tuple (kind, left) of a wish."""
    kind, worths = wish[:2]
    if not has_parts(thing, 2) or thing[0] != kind or not isinstance(thing[1], tuple):
        return False
    return all([is_whole(worth) and worth in worths for worth in thing[1]]) and are_unlike(thing[1])


def is_refused(thing):
    """Whether a thing is a rising tuple of what was refused."""
    if not isinstance(thing, tuple) or not all([is_refused_pair(pair) for pair in thing]):
        return False
    return list(thing) == sorted(set(thing))


def is_refused_pair(thing):
    """Whether a thing is a tuple of a kind and a worth, or of a kind and the sign for all of it."""
    if not has_parts(thing, 2) or not is_name(thing[0]):
        return False
    return is_worth(thing[1]) or thing[1] == ALL_OF_KIND


def is_last(thing, name):
    """Whether a thing is None, or an answer of the end of this name."""
    return thing is None or is_letter(thing) and thing[0] == name and thing[1] in ANSWER_WORDS


def is_air(thing):
    """Whether a thing is letters in the air, each with the name of the end it is for."""
    if not isinstance(thing, tuple) or len(thing) > MOST_SAVED:
        return False
    return all([has_parts(flying, 2) and flying[0] in NAMES and is_letter(flying[1]) for flying in thing])
