"""Courses: asks of wishes and answers of bounds, one behind another, till yes or till something fails."""

from crossedwishes.answers import answer, behind, is_answer
from crossedwishes.plain import has_parts, is_same
from crossedwishes.wishes import ask_of, plan_of


def course(wishes, bounds):
    """What the course of most liked answers comes to, with that course."""
    steps = []
    came = ("plan", plan_of(wishes))
    while came[0] == "plan":
        plan = came[1]
        ask = ask_of(wishes, plan)
        said = answer(bounds, ask)
        steps.append((ask, said))
        came = behind(wishes, plan, said)
    return (*came, steps)


def comes_to(wishes, bounds, thing):
    """What a thing as course comes to, or None where it is no course."""
    if not isinstance(thing, list):
        return None
    came = ("plan", plan_of(wishes))
    for step in thing:
        if came[0] != "plan" or not is_step(wishes, bounds, came[1], step):
            return None
        came = behind(wishes, came[1], step[1])
    return None if came[0] == "plan" else came


def is_step(wishes, bounds, plan, thing):
    """Whether a thing is a plan's ask and one of the bounds' answers to it."""
    ask = ask_of(wishes, plan)
    return has_parts(thing, 2) and is_same(thing[0], ask) and is_answer(bounds, ask, thing[1])


def unlike_worths(worths, left):
    """Of worths that bounds may tell those with unlike plans behind them: of those not left the first will do."""
    strange = [worth for worth in worths if worth not in left]
    return [worth for worth in worths if worth in left] + strange[:1]


def unlike_answers(bounds, plan, ask):
    """Answers of bounds to a plan's ask, such that each plan that any answer leads to has one that does."""
    word, liked = answer(bounds, ask)
    if word != "rather":
        return [(word, liked)]
    known = dict(bounds)
    left = dict(plan)
    choices = [()]
    for kind, first in liked:
        worths = unlike_worths(known[kind], left[kind])
        choices = [(*pairs, (kind, worth)) for pairs in choices for worth in worths]
    return [(word, pairs) for pairs in choices]


def ways_on(wishes, bounds, plan):
    """Steps that courses take at a plan, each with what comes behind it; nothing that can come is left out."""
    ask = ask_of(wishes, plan)
    return [((ask, said), behind(wishes, plan, said)) for said in unlike_answers(bounds, plan, ask)]


def longest(wishes, bounds):
    """The greatest number of asks that a course can have."""
    return longest_from(wishes, bounds, plan_of(wishes), {})


def longest_from(wishes, bounds, plan, known):
    """The greatest number of asks from a plan on; known keeps those of plans gone through."""
    # Unlike courses come through the same plans, so each plan is gone through once.
    if plan not in known:
        ways = ways_on(wishes, bounds, plan)
        later = [longest_from(wishes, bounds, came[1], known) for step, came in ways if came[0] == "plan"]
        known[plan] = 1 + max(later, default=0)
    return known[plan]
