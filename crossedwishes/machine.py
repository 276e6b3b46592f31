"""A machine that does at an event what rows tell."""

from crossedwishes.ends import ask_by, bare_by, begun, changed, lacks_must, outcome, parts_of, shut, with_wishes
from crossedwishes.hearing import answered, bye_back, came_by, last_again, planned
from crossedwishes.rows import NOT

# An event is told from the others by how many parts it has: a letter's who may be called as an event is.
WISH_PARTS = 2
LETTER_PARTS = 6

# Each later one at an event does nothing, so that every event comes to an end.
MOST_ONS = 9


def by_rows(rows, end, event, bounds, *, tries=3):
    """What an end does at an event by rows: the end behind it, and the letters that it writes."""
    parts = parts_of(end)
    letters = []
    acts = acts_due(rows, parts, event)
    ons = 0
    while acts:
        act = acts.pop(0)
        if act == "on":
            ons += 1
            if ons <= MOST_ONS:
                acts = acts_due(rows, parts, event)
        else:
            parts, written = done(act, parts, event, bounds, tries)
            letters.extend(written)
    return outcome(parts, letters)


def row_of(rows, end, event, bounds):
    """The number of the row that is an end's at an event, or None."""
    return place_of(rows, parts_of(end), event)


def place_of(rows, parts, event):
    """As row_of, of an end's parts."""
    word = event[1] if is_written(event) else event[0]
    for at, row in enumerate(rows):
        if row[0] == word and all([holds(test, parts, event) for test in row[1]]):
            return at
    return None


def acts_due(rows, parts, event):
    """The acts of the row that is an end's at an event; none where there is no such row."""
    at = place_of(rows, parts, event)
    return [] if at is None else list(rows[at][2])


def is_written(event):
    """Whether an event is a letter."""
    return len(event) == LETTER_PARTS


def brings_wishes(event):
    """Whether an event tells other wishes."""
    return len(event) == WISH_PARTS


def is_closed(parts):
    return parts["stand"] == "closed"


def is_open(parts):
    return parts["stand"] == "open"


def has_given(parts):
    return parts["given"] is not None


def is_third(parts):
    return parts["echoes"] >= 2


def has_tries(parts):
    return parts["tries"] > 0


def is_own(parts, letter):
    return letter[0] == parts["name"]


def is_elder(parts, letter):
    return letter[2] < parts["yours"]


def is_newer(parts, letter):
    return letter[2] > parts["yours"]


def is_mine(parts, letter):
    return letter[3] == parts["turn"] and letter[3] != 0


def is_late(parts, letter):
    return letter[4] < parts["heard"]


def is_heard(parts, letter):
    return letter[4] == parts["heard"]


def is_its(parts, letter):
    return letter[4] == parts["number"]


def is_agreed(parts, letter):
    return comes(parts, letter, "agreed")


def is_planned(parts, letter):
    return comes(parts, letter, "plan")


def is_failed(parts, letter):
    return comes(parts, letter, "failed")


def comes(parts, letter, word):
    """Whether a letter, as answer to an end's ask, comes to this word; at a closed end it comes to none."""
    if is_closed(parts):
        return False
    came = came_by(parts, letter)
    return came is not None and came[0] == word


END_TESTS = {"closed": is_closed, "open": is_open, "given": has_given, "third": is_third, "tries": has_tries}
LETTER_TESTS = {
    "own": is_own, "elder": is_elder, "newer": is_newer, "mine": is_mine, "late": is_late, "heard": is_heard,
    "its": is_its, "agreed": is_agreed, "planned": is_planned, "failed": is_failed,
}


def holds(test, parts, event):
    """Whether a test, perhaps turned about, holds of an end at an event."""
    if test.startswith(NOT):
        return not holds(test.removeprefix(NOT), parts, event)
    if test == "must":
        return brings_wishes(event) and lacks_must(parts, event[1])
    if test in END_TESTS:
        of_end = END_TESTS[test]
        return of_end(parts)
    of_letter = LETTER_TESTS[test]
    return is_written(event) and of_letter(parts, event)


def turn(parts, event, tries):
    return changed(parts, turn=parts["turn"] + 1, echoes=0)


def learn(parts, event, tries):
    return changed(parts, yours=event[2]) if is_written(event) else parts


def anew(parts, event, tries):
    return begun(parts, tries)


def echo(parts, event, tries):
    return changed(parts, echoes=parts["echoes"] + 1)


def less(parts, event, tries):
    return changed(parts, tries=max(0, parts["tries"] - 1))


def full(parts, event, tries):
    return changed(parts, tries=tries)


def give(parts, event, tries):
    if not is_written(event) or not is_agreed(parts, event):
        return parts
    return changed(parts, given=came_by(parts, event)[1])


def take_plan(parts, event, tries):
    if not is_written(event) or not is_planned(parts, event):
        return parts
    return planned(parts, came_by(parts, event))


def take_wishes(parts, event, tries):
    return with_wishes(parts, event[1], tries) if brings_wishes(event) else parts


def ask(parts, event):
    return [] if is_closed(parts) else [ask_by(parts)]


def here(parts, event):
    return [bare_by(parts, "here")]


def there(parts, event):
    return [bare_by(parts, "there")]


def bye(parts, event):
    if not is_closed(parts):
        return [bare_by(parts, "bye")]
    return [bye_back(parts, event)] if is_written(event) else []


def last(parts, event):
    return last_again(parts)


CHANGES = {
    "turn": turn, "learn": learn, "anew": anew, "echo": echo, "less": less, "full": full, "give": give,
    "plan": take_plan, "wish": take_wishes,
}
WRITINGS = {"ask": ask, "here": here, "there": there, "bye": bye, "last": last}
ENDINGS = {
    "end closed": "closed", "end tries": "tries", "end failed": "failed", "end echo": "echo", "end bye": "bye",
}


def done(act, parts, event, bounds, tries):
    """An end behind an act, by its parts, and the letters written at it."""
    if act in WRITINGS:
        writing = WRITINGS[act]
        return (parts, writing(parts, event))
    if act in ENDINGS:
        return (shut(parts, ENDINGS[act]), [])
    if act == "answer":
        return by_answer(parts, event, bounds)
    change = CHANGES[act]
    return (change(parts, event, tries), [])


def by_answer(parts, event, bounds):
    """An end that answers whatever letter there is, and the letters written at it."""
    if is_closed(parts) or not is_written(event):
        return (parts, [])
    now = answered(parts, event, bounds)
    return (now, last_again(now))
