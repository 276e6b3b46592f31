"""What an end does when it hears a letter."""

from crossedwishes.answers import answer, behind
from crossedwishes.ends import ask_by, bare_by, begun, changed, letter_by, outcome, parts_of, shut
from crossedwishes.letters import BARE_WORDS

MOST_ECHOES = 3


def stands_open_with(one, other):
    """Whether two ends are open for one another, by the same two opening numbers."""
    here = parts_of(one)
    there = parts_of(other)
    if here["stand"] != "open" or there["stand"] != "open":
        return False
    return here["yours"] == there["turn"] and there["yours"] == here["turn"]


def heard(end, letter, bounds, *, tries=3):
    """An end that heard a letter: the end behind it, and the letters that it writes."""
    who, word, mine, yours, number, pairs = letter
    parts = parts_of(end)
    if who == parts["name"]:
        return outcome(echoed(parts), [])
    if parts["stand"] == "closed":
        is_due = yours == parts["turn"] and yours != 0 and word != "bye"
        return outcome(parts, [bye_back(parts, letter)] if is_due else [])
    if mine < parts["yours"]:
        return outcome(parts, [])
    letters = []
    if mine > parts["yours"]:
        parts = begun(changed(parts, yours=mine), tries)
        letters.append(ask_by(parts))
    if yours != parts["turn"]:
        return outcome(parts, letters)
    parts, more = behind_word(parts, letter, bounds, tries)
    return outcome(parts, letters + more)


def as_lesser_hears(end, letter):
    """A letter with the number by which an end takes up any ask, and any answer as one to its own."""
    who, word, mine, yours, number, pairs = letter
    parts = parts_of(end)
    # A newer letter is taken up behind a beginning anew: nothing is heard then, and the own number is 1.
    anew = mine > parts["yours"]
    if word == "ask":
        number = 1 if anew else parts["heard"] + 1
    elif word not in BARE_WORDS:
        number = 1 if anew else parts["number"]
    return (who, word, mine, yours, number, pairs)


def echoed(parts):
    """An end that heard a letter of its own."""
    if parts["stand"] == "closed":
        return parts
    now = changed(parts, echoes=parts["echoes"] + 1)
    return shut(now, "echo") if now["echoes"] >= MOST_ECHOES else now


def bye_back(parts, letter):
    """The bye of a closed end to a letter; it goes to the opening that wrote it."""
    return bare_by(changed(parts, yours=letter[2]), "bye")


def behind_word(parts, letter, bounds, tries):
    """What a letter of the two openings that an end knows brings by its word: its parts, and letters."""
    word = letter[1]
    if word == "ask":
        return behind_ask(parts, letter, bounds)
    if word == "bye":
        return (shut(parts, "bye"), [])
    if word == "here":
        return (parts, [bare_by(parts, "there")])
    if word == "there":
        return (changed(parts, tries=tries), [])
    return behind_answer(parts, letter, tries)


def behind_ask(parts, letter, bounds):
    """What an ask brings: nothing if it is late, the same answer if it comes again."""
    number = letter[4]
    if number < parts["heard"]:
        return (parts, [])
    if number > parts["heard"]:
        parts = answered(parts, letter, bounds)
    return (parts, last_again(parts))


def last_again(parts):
    """An end's last answer, if there is one, as a list of letters."""
    return [] if parts["last"] is None else [parts["last"]]


def answered(parts, letter, bounds):
    """An end that answered a letter's pairs as those of an ask; the answer is its last."""
    number, pairs = letter[4:]
    word, said = answer(bounds, pairs)
    last = letter_by(parts, word, number, said)
    return changed(parts, last=last, heard=number, took=said if word == "yes" else None)


def behind_answer(parts, letter, tries):
    """What yes, no or rather brings to an end's own ask."""
    if letter[4] != parts["number"] or parts["given"] is not None:
        return (parts, [])
    came = came_by(parts, letter)
    if came is None:
        return (parts, [])
    if came[0] == "agreed":
        return (changed(parts, given=came[1], tries=tries), [])
    if came[0] == "failed":
        return (shut(parts, "failed"), [bare_by(parts, "bye")])
    now = changed(planned(parts, came), tries=tries)
    return (now, [ask_by(now)])


def came_by(parts, letter):
    """What a letter, as answer to the ask of an end that isn't closed, comes to, or None."""
    return behind(parts["wishes"], parts["plan"], (letter[1], letter[5]))


def planned(parts, came):
    """An end that took up the plan behind an answer, for its next ask."""
    refused = tuple(sorted(set(parts["refused"] + came[2])))
    return changed(parts, plan=came[1], refused=refused, number=parts["number"] + 1)
