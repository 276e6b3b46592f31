"""Books, letters, deeds and talks read back from their texts."""

from crossedwishes.errors import NoText
from crossedwishes.letters import is_letter
from crossedwishes.wire import LETTER_DEEDS, is_deed
from crossedwishes.wishes import are_bounds, are_wishes, is_bound, is_wish

MOST_FIGURES = 10


def read_book(text):
    """The book that a text writes."""
    lines = lines_of(text)
    if lines[:1] != ["wishes"]:
        raise NoText(0)
    wishes = read_from(lines[1:], wish_in, are_wishes)
    middle = 1 + len(wishes)
    if lines[middle:middle + 1] != ["bounds"]:
        raise NoText(middle)
    bounds = read_from(lines[middle + 1:], bound_in, are_bounds)
    behind = middle + 1 + len(bounds)
    if behind < len(lines):
        raise NoText(behind)
    return (wishes, bounds)


def read_letter(text):
    """The letter that a text writes."""
    return read_whole(text, letter_in)


def read_deed(text):
    """The deed that a text writes."""
    return read_whole(text, deed_in)


def read_talk(text):
    """The talk that a text writes."""
    talk = []
    for at, line in enumerate(lines_of(text)):
        deed = deed_in(line)
        if deed is None:
            raise NoText(at)
        talk.append(deed)
    return talk


def need_text(thing):
    """Refuses what is no text."""
    if not isinstance(thing, str):
        raise NoText(None)


def read_whole(text, read):
    """What a text that is no lines writes."""
    need_text(text)
    thing = read(text)
    if thing is None:
        raise NoText(0)
    return thing


def lines_of(text):
    """The lines of a text, without their line ends."""
    need_text(text)
    *lines, rest = text.split("\n")
    # A line without a line end can't stand anywhere, nor can an empty one, which so stands for it.
    return [*lines, ""] if rest else lines


def read_from(lines, read, are_such):
    """What the lines write from the first on, as far as it is such together."""
    things = ()
    for line in lines:
        more = (*things, read(line))
        if not are_such(more):
            return things
        things = more
    return things


def number_in(text):
    """The number that a text writes, or None."""
    if not 1 <= len(text) <= MOST_FIGURES or not all(["0" <= sign <= "9" for sign in text]):
        return None
    if text[0] == "0" and text != "0":
        return None
    return int(text)


def worths_in(text):
    """What a text writes as worths, None for what is no number."""
    return tuple([number_in(part) for part in text.split(",")])


def bound_in(text):
    """The bound that a text writes, or None."""
    kind, sign, worths = text.partition(" ")
    bound = (kind, worths_in(worths))
    return bound if is_bound(bound) else None


def wish_in(text):
    """The wish that a text writes, or None."""
    words = text.split(" ")
    bound = bound_in(" ".join(words[:2]))
    must = words[2:3] == ["must"]
    needs = words[3:] if must else words[2:]
    if bound is None or needs and (len(needs) != 3 or needs[0] != "if"):
        return None
    wish = (*bound, must, (needs[1], number_in(needs[2])) if needs else None)
    return wish if is_wish(wish) else None


def pair_in(text):
    """What a text writes as a pair, None for what is no number."""
    kind, sign, worth = text.partition("=")
    return (kind, number_in(worth))


def letter_in(text):
    """The letter that a text writes, or None."""
    words = text.split(" ")
    who_and_word = words[:2]
    numbers = [number_in(word) for word in words[2:5]]
    letter = (*who_and_word, *numbers, tuple([pair_in(word) for word in words[5:]]))
    return letter if is_letter(letter) else None


def deed_in(text):
    """The deed that a text writes, or None."""
    word, blank, part = text.partition(" ")
    if word == "wish":
        deed = wish_deed_in(part)
    else:
        deed = (word, number_in(part) if word in LETTER_DEEDS else part)
    return deed if is_deed(deed) else None


def wish_deed_in(text):
    """What the text behind `wish ` writes as a deed; None for what is no wish."""
    who, blank, more = text.partition(" ")
    *parts, rest = (blank + more).split(";")
    wishes = [wish_in(part[1:]) if part[:1] == " " else None for part in parts]
    # Behind the last `;` nothing stands.
    return ("wish", who, tuple(wishes) if not rest else None)
