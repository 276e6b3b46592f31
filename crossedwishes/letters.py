"""Letters: tuples (who, word, mine, yours, number, pairs)."""

from crossedwishes.plain import has_parts, is_whole
from crossedwishes.wishes import are_unlike, is_name, is_pair

MOST_PAIRS = 6

LETTER_WORDS = ("ask", "yes", "no", "rather", "bye", "here", "there")
# Letters of these words have neither the number of an ask nor pairs.
BARE_WORDS = ("bye", "here", "there")


def is_letter(thing):
    """Whether a thing is a letter."""
    if not has_parts(thing, 6):
        return False
    who, word, mine, yours, number, pairs = thing
    if not is_name(who) or word not in LETTER_WORDS:
        return False
    if not is_from(mine, 1) or not is_from(yours, 0) or not are_pairs(pairs):
        return False
    if word in BARE_WORDS:
        return is_whole(number) and number == 0 and pairs == ()
    return is_from(number, 1)


def is_from(thing, least):
    """Whether a thing is a whole number from the least one on."""
    return is_whole(thing) and thing >= least


def are_pairs(thing):
    """Whether a thing is pairs as a letter has them."""
    if not isinstance(thing, tuple) or len(thing) > MOST_PAIRS:
        return False
    return all([is_pair(pair) for pair in thing]) and are_unlike([pair[0] for pair in thing])


def letter_back(letter, other):
    """The bye of the end named other to a letter that knows its opening number."""
    mine, yours = letter[2:4]
    return (other, "bye", yours, mine, 0, ())
