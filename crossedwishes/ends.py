"""Ends, which stand as tuples, and the events at them but the hearing of letters."""

from crossedwishes.errors import NotClosed, NotOpen
from crossedwishes.wishes import ask_of, plan_of

# The parts of an end, in the order in which its tuple has them.
PARTS = (
    "name", "wishes", "stand", "turn", "yours", "number", "plan", "refused", "given", "heard", "took", "last", "tries",
    "echoes", "why",
)


def new_end(name, wishes):
    """An end that was never opened."""
    return (name, wishes, "closed", 0, 0, 0, (), (), None, 0, None, None, 0, 0, "new")


def opened(end, *, tries=3):
    """A closed end opened: the end behind it, and the letters that it writes."""
    parts = parts_of(end)
    if parts["stand"] != "closed":
        raise NotClosed()
    now = begun(changed(parts, turn=parts["turn"] + 1, echoes=0), tries)
    return outcome(now, [ask_by(now)])


def closing(end):
    """An end closed by its own will: the end behind it, and the letters that it writes."""
    parts = parts_of(end)
    if parts["stand"] == "closed":
        raise NotOpen()
    return ended(parts, "closed")


def ticked(end):
    """An end that waited in vain: the end behind it, and the letters that it writes."""
    parts = parts_of(end)
    if parts["stand"] == "closed":
        return outcome(parts, [])
    if parts["tries"] == 0:
        return ended(parts, "tries")
    now = changed(parts, tries=parts["tries"] - 1)
    return outcome(now, [ask_by(now) if now["given"] is None else bare_by(now, "here")])


def wished(end, wishes, *, tries=3):
    """An end that has other wishes now: the end behind it, and the letters that it writes."""
    parts = parts_of(end)
    now = with_wishes(parts, wishes, tries)
    if parts["stand"] == "closed":
        return outcome(now, [])
    if lacks_must(parts, wishes):
        return ended(now, "failed")
    return outcome(now, [ask_by(now)])


def parts_of(end):
    """The parts of an end by their names."""
    return dict(zip(PARTS, end))


def end_of(parts):
    """The end that has these parts."""
    return tuple([parts[part] for part in PARTS])


def outcome(parts, letters):
    """What an event tells."""
    return (end_of(parts), letters)


def changed(parts, **more):
    """The parts of an end, some of them otherwise now, with the stand that they tell."""
    now = {**parts, **more}
    if now["stand"] != "closed":
        agreed = now["given"] is not None and now["took"] is not None
        now["stand"] = "open" if agreed else "asking"
    return now


def begun(parts, tries):
    """An end that begins anew; its turn, yours and echoes stay."""
    return changed(
        parts, stand="asking", number=1, plan=plan_of(parts["wishes"]), refused=(), given=None, heard=0, took=None,
        last=None, tries=tries, why="",
    )


def shut(parts, why):
    """An end that is closed, and why."""
    return changed(
        parts, stand="closed", number=0, plan=(), refused=(), given=None, heard=0, took=None, last=None, tries=0,
        why=why,
    )


def ended(parts, why):
    """What an event tells at which an end closes with a bye."""
    return outcome(shut(parts, why), [bare_by(parts, "bye")])


def with_wishes(parts, wishes, tries):
    """An end that has other wishes, and, if it isn't closed, their plan."""
    if parts["stand"] == "closed":
        return changed(parts, wishes=wishes)
    plan = plan_of(wishes, refused=parts["refused"])
    return changed(parts, wishes=wishes, plan=plan, number=parts["number"] + 1, given=None, tries=tries)


def lacks_must(parts, wishes):
    """Whether by what was refused nothing is left of one of these wishes that must be."""
    plan = plan_of(wishes, refused=parts["refused"])
    return any([wish[2] and not left for wish, (kind, left) in zip(wishes, plan)])


def letter_by(parts, word, number, pairs):
    """A letter of an end as it stands."""
    return (parts["name"], word, parts["turn"], parts["yours"], number, pairs)


def ask_by(parts):
    """The letter by which an end asks."""
    return letter_by(parts, "ask", parts["number"], ask_of(parts["wishes"], parts["plan"]))


def bare_by(parts, word):
    """A letter of an end that has neither number nor pairs."""
    return letter_by(parts, word, 0, ())
