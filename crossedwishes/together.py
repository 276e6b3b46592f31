"""Whether wishes and bounds agree always, sometimes or never, with courses as paper."""

from crossedwishes.courses import comes_to, ways_on
from crossedwishes.plain import has_parts
from crossedwishes.wishes import plan_of

# What the two courses told with each word come to.
COME_TO = {"always": ("agreed", None), "sometimes": ("agreed", "failed"), "never": (None, "failed")}


def together(wishes, bounds):
    """A tuple (word, a course that agrees or None, a course that fails or None)."""
    agreed, failed = ends_from(wishes, bounds, plan_of(wishes), {})
    if failed is None:
        return ("always", list(agreed), None)
    if agreed is None:
        return ("never", None, list(failed))
    return ("sometimes", list(agreed), list(failed))


def ends_from(wishes, bounds, plan, known):
    """The steps from a plan on to an agreed ask, and those to a failing, None where there are none.

    known keeps those of plans gone through.
    """
    if plan in known:
        return known[plan]
    agreed = failed = None
    for step, came in ways_on(wishes, bounds, plan):
        good, bad = tails_behind(wishes, bounds, came, known)
        if agreed is None and good is not None:
            agreed = (step, *good)
        if failed is None and bad is not None:
            failed = (step, *bad)
    known[plan] = (agreed, failed)
    return known[plan]


def tails_behind(wishes, bounds, came, known):
    """As ends_from, behind a step."""
    if came[0] == "agreed":
        return ((), None)
    if came[0] == "failed":
        return (None, ())
    return ends_from(wishes, bounds, came[1], known)


def agreed_asks(wishes, bounds):
    """All asks that can be agreed, rising."""
    plans = [plan_of(wishes)]
    seen = set(plans)
    asks = set()
    while plans:
        plan = plans.pop()
        for step, came in ways_on(wishes, bounds, plan):
            if came[0] == "agreed":
                asks.add(came[1])
            elif came[0] == "plan" and came[1] not in seen:
                seen.add(came[1])
                plans.append(came[1])
    return sorted(asks)


def lets_together(wishes, bounds, thing):
    """Whether a thing is a tuple that together may tell of these wishes and bounds."""
    if not has_parts(thing, 3):
        return False
    word = together(wishes, bounds)[0]
    if thing[0] != word:
        return False
    first, other = COME_TO[word]
    return is_paper(wishes, bounds, thing[1], first) and is_paper(wishes, bounds, thing[2], other)


def is_paper(wishes, bounds, thing, due):
    """Whether a thing is a course that comes to what is due, None where nothing is."""
    if due is None:
        return thing is None
    came = comes_to(wishes, bounds, thing)
    return came is not None and came[0] == due
