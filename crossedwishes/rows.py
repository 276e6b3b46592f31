"""Rows, which tell a machine what an end does."""

from crossedwishes.letters import LETTER_WORDS
from crossedwishes.plain import has_parts

MOST_ROWS = 60
MOST_TESTS = 9
MOST_ACTS = 9

# Ahead of a test's name this turns it about.
NOT = "not "

EVENT_WORDS = ("open", "close", "tick", "wish")
TESTS = (
    "closed", "open", "given", "own", "third", "elder", "newer", "mine", "tries", "late", "heard", "its", "agreed",
    "planned", "failed", "must",
)
ACTS = (
    "turn", "learn", "anew", "ask", "here", "there", "bye", "answer", "last", "echo", "less", "full", "give", "plan",
    "wish", "end closed", "end tries", "end failed", "end echo", "end bye", "on",
)

# A bye of a closed end is another one, so it goes ahead of the closing.
EVENT_ROWS = (
    ("open", ("closed",), ("turn", "anew", "ask")),
    ("close", ("not closed",), ("bye", "end closed")),
    ("tick", ("closed",), ()),
    ("tick", ("not tries",), ("bye", "end tries")),
    ("tick", ("given",), ("less", "here")),
    ("tick", (), ("less", "ask")),
    ("wish", ("closed",), ("wish",)),
    ("wish", ("must",), ("bye", "wish", "end failed")),
    ("wish", (), ("wish", "ask")),
)

# These stand behind the rows that each letter's word has, so the end isn't closed there, and the letter isn't newer.
LETTER_ROWS = (
    ("ask", ("not elder", "mine", "heard"), ("last",)),
    ("ask", ("not elder", "mine", "not late"), ("answer",)),
    ("yes", ("not elder", "mine", "its", "not given", "agreed"), ("give", "full")),
    ("no", ("not elder", "mine", "its", "not given", "planned"), ("plan", "full", "ask")),
    ("no", ("not elder", "mine", "its", "not given", "failed"), ("bye", "end failed")),
    ("rather", ("not elder", "mine", "its", "not given", "planned"), ("plan", "full", "ask")),
    ("rather", ("not elder", "mine", "its", "not given", "failed"), ("bye", "end failed")),
    ("bye", ("not elder", "mine"), ("end bye",)),
    ("here", ("not elder", "mine"), ("there",)),
    ("there", ("not elder", "mine"), ("full",)),
)


def told_rows():
    """Rows by which a machine does just what the events tell."""
    rows = list(EVENT_ROWS)
    for word in LETTER_WORDS:
        rows.extend(rows_of_each(word))
    rows.extend(LETTER_ROWS)
    return tuple(rows)


def rows_of_each(word):
    """The rows that hold for letters of each word."""
    rows = [
        (word, ("closed",), ()),
        (word, ("own", "third"), ("echo", "end echo")),
        (word, ("own",), ("echo",)),
        (word, ("newer",), ("learn", "anew", "ask", "on")),
    ]
    if word == "bye":
        return rows
    return [(word, ("closed", "mine", "not own"), ("bye",)), *rows]


def are_rows(thing):
    """Whether a thing is rows."""
    return isinstance(thing, tuple) and len(thing) <= MOST_ROWS and all([is_row(row) for row in thing])


def is_row(thing):
    """Whether a thing is a row."""
    if not has_parts(thing, 3):
        return False
    word, tests, acts = thing
    if word not in EVENT_WORDS and word not in LETTER_WORDS:
        return False
    if not isinstance(tests, tuple) or not isinstance(acts, tuple):
        return False
    if len(tests) > MOST_TESTS or len(acts) > MOST_ACTS:
        return False
    return all([is_test(test) for test in tests]) and all([act in ACTS for act in acts])


def is_test(thing):
    """Whether a thing is the name of a test, perhaps turned about."""
    return isinstance(thing, str) and thing.removeprefix(NOT) in TESTS
