"""Point 17: weavings of small books, gone through whole."""

import copy
import itertools
import random
import unittest
from unittest import mock

from crossedwishes import weave
from crossedwishes.courses import course
from crossedwishes.errors import TooMany
from crossedwishes.weave import comes_to_by, weavings
from crossedwishes.wire import Wire
from tests.things import BOOKS, SMALL, STRANGE, kin, part, wish

NONE = ((), ())
ONE = ((wish("a", (2, 1), True),), (("b", (1,)),))
OTHER = ((wish("b", (0, 1)), wish("c")), (("a", (1,)),))
FAILS = ((wish("d", (1,), True),), (("a", (1,)),))
TINY = [NONE, ONE, OTHER, FAILS, ((wish("a"),), ()), ((), (("a", (2, 1)), ("b", (0,))))]


def is_over(wire):
    return wire.stands() == ("closed",) or wire.stands()[0] == "open" and not wire.air()


def opened_both(one, other, tries):
    wire = Wire(one, other, tries=tries)
    wire.do(("open", "a"))
    wire.do(("open", "b"))
    return wire


def ways(wire, lost, twice):
    """Each deed by which a weaving goes on, with what may be lost and doubled behind it."""
    if not wire.air():
        yield from [(("tick", who), lost, twice) for who in "ab"]
    for k in range(len(wire)):
        yield (("come", k), lost, twice)
        if lost:
            yield (("lost", k), lost - 1, twice)
        if twice:
            yield (("twice", k), lost, twice - 1)


def gone_through(one, other, tries=1, lost=0, twice=0, most=2600):
    """The stands that weavings on wires come to, and how many unlike states they come through, or None of too many."""
    first = opened_both(one, other, tries)
    todo = [(first, lost, twice)]
    seen = {(first.ends(), tuple(first.air()), lost, twice)}
    stands = set()
    while todo and len(seen) <= most:
        wire, *left = todo.pop()
        if is_over(wire):
            stands.add(wire.stands())
            continue
        for deed, *more in ways(wire, *left):
            later = wire.twin()
            later.do(deed)
            mark = (later.ends(), tuple(sorted(later.air())), *more)
            if mark not in seen:
                seen.add(mark)
                todo.append((later, *more))
    return (None, None) if todo else (sorted(stands), len(seen))


def is_weaving(one, other, deeds, tries, lost, twice):
    """Whether a list of deeds is a weaving, done on a wire."""
    if deeds[:2] != [("open", "a"), ("open", "b")]:
        return False
    wire = opened_both(one, other, tries)
    for deed in deeds[2:]:
        if is_over(wire) or deed not in [way[0] for way in ways(wire, lost, twice)]:
            return False
        lost -= deed[0] == "lost"
        twice -= deed[0] == "twice"
        wire.do(deed)
    return is_over(wire)


class Weavings(unittest.TestCase):
    def looks(self, one, other, most=2600, **more):
        """Compares what is told with what wires come to; tells the stands, or None where it is refused."""
        stands, many = gone_through(one, other, most=most, **more)
        if many is None or many > 2000:
            with self.assertRaises(TooMany):
                weavings(one, other, **more)
            return None
        told = weavings(one, other, **more)
        self.assertEqual([stand for stand, deeds in told], stands)
        self.assertEqual(told, sorted(told))
        for thing in told:
            self.assertIs(type(thing), tuple)
            stand, deeds = thing
            self.assertIs(type(deeds), list)
            self.assertEqual(comes_to_by(one, other, deeds, **more), stand)
            wire = Wire(one, other, tries=more.get("tries", 1))
            for deed in deeds:
                wire.do(deed)
            self.assertEqual(wire.stands(), stand)
            self.assertTrue(is_weaving(one, other, deeds, more.get("tries", 1), more.get("lost", 0), more.get("twice", 0)))
        return stands

    def test_the_shortest(self):
        self.assertEqual(weavings(NONE, NONE), [(("open", (), ()), weavings(NONE, NONE)[0][1])])
        self.assertEqual(weavings(NONE, NONE)[0][1][:2], [("open", "a"), ("open", "b")])

    def test_nothing_lost_comes_to_what_the_courses_tell(self):
        for one, other in itertools.product(TINY, TINY):
            here, there = course(one[0], other[1]), course(other[0], one[1])
            due = ("open", here[1], there[1]) if here[0] == there[0] == "agreed" else ("closed",)
            self.assertEqual(self.looks(one, other), [due])

    def test_lost_and_twice(self):
        refused = 0
        for lost, twice in itertools.product(range(3), range(3)):
            for one, other in ((NONE, NONE), (ONE, OTHER), (FAILS, NONE), (ONE, FAILS)):
                refused += self.looks(one, other, most=2000, lost=lost, twice=twice) is None
        self.assertTrue(0 < refused < 30, refused)

    def test_tries(self):
        for tries in (1, 2, 3, 9):
            for lost in (0, 1, 2):
                self.looks(ONE, NONE, tries=tries, lost=lost)
                self.looks(FAILS, OTHER, tries=tries, lost=lost)

    def test_more_is_come_to_where_letters_are_lost(self):
        self.assertEqual([stand[0] for stand in self.looks(NONE, NONE, lost=2)], ["closed", "open"])
        self.assertEqual([stand[0] for stand in self.looks(NONE, NONE)], ["open"])

    def test_several_ways_to_stand_open(self):
        # Small books of all sorts: each stand once, rising.
        for seed in range(40):
            dice = random.Random(seed)
            self.looks(dice.choice(SMALL), dice.choice(BOOKS), lost=dice.randrange(2), most=2000)

    def test_left_out(self):
        self.assertEqual(weavings(ONE, OTHER), weavings(ONE, OTHER, tries=1, lost=0, twice=0))


class TooManyStates(unittest.TestCase):
    def test_near_the_bound(self):
        one = ((), (("c", (3,)), ("a", (1, 2)), ("b", (2,))))
        other = ((wish("b", (3, 1), True),), (("c", (0, 1, 3)),))
        self.assertEqual(gone_through(one, other, 3, 2, 1)[1], 1999)
        self.assertEqual([stand[0] for stand, deeds in weavings(one, other, tries=3, lost=2, twice=1)], ["closed"])
        one, other = SMALL[42], SMALL[24]
        self.assertEqual(gone_through(one, other, 2, 2, 1)[1], 2015)
        with self.assertRaises(TooMany):
            weavings(one, other, tries=2, lost=2, twice=1)
        one, other = SMALL[27], SMALL[42]
        self.assertEqual(gone_through(one, other, 1, 2, 1)[1], 1985)
        weavings(one, other, lost=2, twice=1)

    def test_just_where_there_are_more(self):
        self.assertEqual(weave.MOST_STATES, 2000)
        for one, other, lost, twice in ((NONE, NONE, 0, 0), (ONE, OTHER, 0, 0), (FAILS, NONE, 1, 0), (NONE, ONE, 0, 1)):
            many = gone_through(one, other, 1, lost, twice)[1]
            told = weavings(one, other, lost=lost, twice=twice)
            with mock.patch.object(weave, "MOST_STATES", many):
                self.assertEqual(weavings(one, other, lost=lost, twice=twice), told)
            with mock.patch.object(weave, "MOST_STATES", many - 1):
                with self.assertRaises(TooMany) as caught:
                    weavings(one, other, lost=lost, twice=twice)
                self.assertIs(type(caught.exception), TooMany)
                self.assertEqual(vars(caught.exception), {})

    def test_far_too_many(self):
        six = (tuple([wish(kind, (1, 2, 3, 4, 5, 6)) for kind in "abcdef"]), tuple([(kind, (7, 8)) for kind in "abcdef"]))
        with self.assertRaises(TooMany):
            weavings(six, six, tries=9, lost=2, twice=2)


class ComesToBy(unittest.TestCase):
    def none(self, thing, one=ONE, other=OTHER, **more):
        self.assertIsNone(comes_to_by(one, other, thing, **more), repr(thing)[:200])

    def test_weavings_spoiled(self):
        counts = {True: 0, False: 0}
        for one, other, lost, twice in ((ONE, OTHER, 0, 0), (NONE, NONE, 1, 1), (ONE, FAILS, 1, 0), (NONE, ONE, 0, 1)):
            for stand, deeds in weavings(one, other, lost=lost, twice=twice):
                for thing in self.spoiled(deeds):
                    due = is_weaving(one, other, thing, 1, lost, twice)
                    counts[due] += 1
                    came = comes_to_by(one, other, thing, lost=lost, twice=twice)
                    self.assertEqual(came is not None, due, thing)
                    if due:
                        wire = Wire(one, other, tries=1)
                        for deed in thing:
                            wire.do(deed)
                        self.assertEqual(came, wire.stands())
        self.assertGreater(min(counts.values()), 5)

    def spoiled(self, deeds):
        """Deeds left out, more, otherwise."""
        others = [("come", 0), ("come", 1), ("come", 2), ("lost", 0), ("twice", 0), ("tick", "a"), ("tick", "b"), ("open", "a"),
                  ("close", "b"), ("back", 0), ("wish", "a", ())]
        for at in range(len(deeds) + 1):
            yield deeds[:at]
            yield deeds[:at] + deeds[at + 1:]
            for deed in others:
                yield deeds[:at] + [deed] + deeds[at:]
                yield deeds[:at] + [deed] + deeds[at + 1:]

    def test_led_weavings(self):
        closed = 0
        for seed in range(200):
            dice = random.Random(seed)
            one, other = dice.choice(SMALL), dice.choice(SMALL)
            lost, twice, tries = dice.randrange(3), dice.randrange(3), dice.randint(1, 4)
            wire = opened_both(one, other, tries)
            left = (lost, twice)
            while not is_over(wire):
                self.none(wire.deeds(), one, other, tries=tries, lost=lost, twice=twice)
                deed, *left = dice.choice(list(ways(wire, *left)))
                wire.do(deed)
            self.assertEqual(comes_to_by(one, other, wire.deeds(), tries=tries, lost=lost, twice=twice), wire.stands())
            closed += wire.stands() == ("closed",)
            words = [deed[0] for deed in wire.deeds()]
            if "lost" in words:
                self.none(wire.deeds(), one, other, tries=tries, lost=words.count("lost") - 1, twice=twice)
            if "twice" in words:
                self.none(wire.deeds(), one, other, tries=tries, lost=lost, twice=words.count("twice") - 1)
        self.assertTrue(0 < closed < 200)

    def test_ticks_of_closed_ends(self):
        wire = opened_both(FAILS, NONE, 2)
        # Behind a's failing all letters are lost, so that b stands alone.
        deeds = wire.deeds()

        def does(deed):
            wire.do(deed)
            deeds.append(deed)
        while part(wire.ends()[0], "stand") != "closed":
            does(("come", 0))
        lost = 0
        while wire.air():
            does(("lost", 0))
            lost += 1
        self.assertNotEqual(wire.stands(), ("closed",))
        for turn in range(3):
            does(("tick", "a"))
        while not is_over(wire):
            does(("come", 0) if wire.air() else ("tick", "b"))
        # Lost letters beyond two are beyond what is promised; the count is taken as it is told.
        self.assertEqual(comes_to_by(FAILS, NONE, deeds, tries=2, lost=lost), ("closed",))
        self.none(deeds, FAILS, NONE, tries=2, lost=lost - 1)

    def test_ticks_only_where_the_air_is_empty(self):
        stand, deeds = weavings(ONE, OTHER)[0]
        for at in range(2, len(deeds)):
            for who in "ab":
                self.none(deeds[:at] + [("tick", who)] + deeds[at:])

    def test_anything(self):
        stand, deeds = weavings(ONE, OTHER)[0]
        self.assertEqual(comes_to_by(ONE, OTHER, deeds), stand)
        for thing in STRANGE + [tuple(deeds), None, [None] * 12, deeds[2:], deeds[:1], deeds[::-1], [("open", "a"), ("open", "b")]]:
            self.none(thing)
        for at in range(len(deeds)):
            for thing in STRANGE:
                self.none(deeds[:at] + [thing] + deeds[at:])
                self.none(deeds[:at] + [thing] + deeds[at + 1:])
            for thing in kin(deeds[at]):
                self.none(deeds[:at] + [thing] + deeds[at + 1:])
        self.none([("open", "b"), ("open", "a")] + deeds[2:])
        self.none(deeds + [("come", 10 ** 99)])
        self.none(deeds[:3] + [("come", 10 ** 99)] + deeds[3:])

    def test_nothing_goes_on_behind_the_end(self):
        stand, deeds = weavings(ONE, OTHER)[0]
        for deed in (("tick", "a"), ("tick", "b"), ("come", 0), ("lost", 0), ("close", "a"), ("open", "a")):
            self.none(deeds + [deed], lost=2, twice=2)

    def test_stands_told_are_plain(self):
        stand, deeds = weavings(ONE, OTHER)[0]
        self.assertEqual(stand, ("open", (("a", 1),), (("b", 1),)))
        self.assertIs(type(comes_to_by(ONE, OTHER, deeds)), tuple)


class WhatStays(unittest.TestCase):
    def test_the_same_is_told_again(self):
        one, other = copy.deepcopy((ONE, OTHER))
        told = weavings(one, other, lost=1)
        kept = copy.deepcopy(told)
        for stand, deeds in told:
            deeds.clear()
        told.clear()
        self.assertEqual(weavings(one, other, lost=1), kept)
        self.assertEqual((one, other), (ONE, OTHER))
        deeds = kept[0][1]
        before = list(deeds)
        comes_to_by(one, other, deeds, lost=1)
        self.assertEqual(deeds, before)


if __name__ == "__main__":
    unittest.main()
