"""A desk: a wire that is led by lines, each answered with a text."""

from crossedwishes.errors import NoLine, NoText
from crossedwishes.reader import number_in
from crossedwishes.texts import show_end, show_flying, show_pair
from crossedwishes.unsafe import unsafe
from crossedwishes.wire import NAMES, Wire

# What is answered where there is nothing to tell.
NOTHING = "-"

# Lines with the name of an end behind the word; those with the number of a letter, and the deeds that they do.
END_LINES = ("open", "close", "tick", "end")
LETTER_LINES = {"come": "come", "lost": "lost", "twice": "twice", "echo": "back"}


class Desk:
    """Keeps a wire, and is told lines."""

    def __init__(self, one, other, *, tries=3):
        self.wire = Wire(one, other, tries=tries)

    def say(self, line):
        """The answer to a line."""
        word, *parts = words_of(line)
        if word in BARE_LINES:
            tell = BARE_LINES[word]
            return tell(self.wire)
        if word in LETTER_LINES:
            return do_by_line(self.wire, (LETTER_LINES[word], number_by(parts[0])))
        who = name_by(parts[0])
        if word == "end":
            return show_end(self.wire.ends()[NAMES.index(who)])
        return do_by_line(self.wire, (word, who))


def do_by_line(wire, deed):
    """Does a deed on a wire; tells what it brought."""
    brought = [f"{who} {stand}" for who, stand in wire.do(deed)]
    return ", ".join(brought) or NOTHING


def take_back(wire):
    """Takes back the last deed on a wire."""
    wire.back()
    return "ok"


def settle(wire):
    """Settles a wire; tells how many letters came."""
    return str(wire.settle())


def tell_stands(wire):
    """How both ends of a wire stand together, by one word."""
    return wire.stands()[0]


def tell_sets(wire):
    """What both ends of a wire were given, where they stand open for one another."""
    word, *sets = wire.stands()
    return " ".join([tell_set(pairs) for pairs in sets]) or NOTHING


def tell_set(pairs):
    """What one end was given."""
    return ",".join([show_pair(pair) for pair in pairs]) or NOTHING


def tell_air(wire):
    """The letters in the air of a wire."""
    return ";".join([show_flying(to, letter) for to, letter in wire.air()]) or NOTHING


def tell_safe(wire):
    """Whether a wire is safe, else what is unsafe on it."""
    return " ".join(unsafe(wire)) or "yes"


# Lines of one word.
BARE_LINES = {
    "back": take_back, "settle": settle, "stands": tell_stands, "sets": tell_sets, "air": tell_air, "safe": tell_safe,
}


def words_of(line):
    """The words of a line, as many as its first one asks for."""
    if not isinstance(line, str):
        raise NoLine()
    words = line.split(" ")
    if words[0] not in BARE_LINES and words[0] not in LETTER_LINES and words[0] not in END_LINES:
        raise NoLine()
    if len(words) != (1 if words[0] in BARE_LINES else 2):
        raise NoLine()
    return words


def name_by(word):
    """The name of an end that a word writes."""
    if word not in NAMES:
        raise NoText(None)
    return word


def number_by(word):
    """The number that a word writes."""
    number = number_in(word)
    if number is None:
        raise NoText(None)
    return number
