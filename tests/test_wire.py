"""Points 15 and 16: a wire by its deeds."""

import copy
import random
import unittest
from unittest import mock

from crossedwishes import wire as module
from crossedwishes.ends import closing, new_end, opened, ticked, wished
from crossedwishes.errors import NoBack, NoDeed, NoLetter, NotClosed, NotOpen, TooMany
from crossedwishes.hearing import heard
from crossedwishes.texts import show_wire
from crossedwishes.wire import Wire
from tests.things import BOOKS, SMALL_WISHES, STRANGE, kin, lead, other_name, part, some_deed, wish, worths_of

ONE, OTHER = BOOKS[0], BOOKS[1]
ALIKE = ((wish("a", (2, 1), True),), (("a", (1,)),))
NONE = ((), ())


def made(*deeds, one=ONE, other=OTHER, **tries):
    wire = Wire(one, other, **tries)
    for deed in deeds:
        wire.do(deed)
    return wire


def both(**more):
    return made(("open", "a"), ("open", "b"), **more)


def settled(**more):
    wire = both(**more)
    wire.settle()
    return wire


def all_of(wire):
    """All that a wire tells."""
    return copy.deepcopy((wire.ends(), wire.air(), wire.deeds(), wire.stands(), wire.saved(), wire.busy, len(wire), str(wire), repr(wire)))


class Deeds(unittest.TestCase):
    """Each deed against the events that point 13 tells."""

    def setUp(self):
        self.wire = both()
        for deed in (("come", 1), ("come", 1), ("come", 1), ("twice", 0), ("twice", 2)):
            self.wire.do(deed)
        self.assertGreater(len(self.wire), 3)

    def due(self, deed):
        """The ends and the air behind a deed, by what points 13 and 15 say."""
        ends = dict(zip("ab", self.wire.ends()))
        air = self.wire.air()
        bounds = {"a": ONE[1], "b": OTHER[1]}
        word, part_of = deed[:2]
        who = part_of
        if word in ("come", "lost", "back"):
            to, letter = air.pop(part_of)
            who = to if word == "come" else other_name(to)
        if word == "lost":
            told = None
        elif word == "twice":
            air.append(air[part_of])
            told = None
        elif word in ("come", "back"):
            told = heard(ends[who], letter, bounds[who])
        else:
            told = {"open": opened, "close": closing, "tick": ticked}[word](ends[who]) if word != "wish" else wished(ends[who], deed[2])
        before = {name: part(end, "stand") for name, end in ends.items()}
        if told:
            ends[who] = told[0]
            air += [(other_name(who), letter) for letter in told[1]]
        brought = [(name, part(end, "stand")) for name, end in ends.items() if part(end, "stand") != before[name]]
        return (ends["a"], ends["b"]), air, brought

    def does(self, deed):
        ends, air, brought = self.due(deed)
        deeds = self.wire.deeds()
        self.assertEqual(self.wire.do(deed), brought)
        self.assertEqual((self.wire.ends(), self.wire.air(), self.wire.deeds()), (ends, air, deeds + [deed]))
        self.assertEqual(len(self.wire), len(air))

    def test_events_at_each_end(self):
        for who in "ab":
            for deed in (("tick", who), ("wish", who, SMALL_WISHES[3]), ("wish", who, ()), ("close", who), ("tick", who),
                         ("wish", who, SMALL_WISHES[1]), ("open", who), ("tick", who)):
                self.does(deed)

    def test_letters_first_last_and_amid(self):
        for word in ("come", "lost", "twice", "back"):
            for k in (0, 1, len(self.wire) // 2, len(self.wire) - 1):
                before = self.wire.twin()
                self.does((word, k))
                self.wire = before

    def test_led_wires(self):
        for seed in range(60):
            dice = random.Random(seed)
            self.wire = both()
            for turn in range(40):
                deed = some_deed(dice, self.wire, SMALL_WISHES)
                if deed is not None:
                    self.does(deed)


class Told(unittest.TestCase):
    def test_a_new_wire(self):
        wire = Wire(ONE, OTHER)
        self.assertEqual(wire.ends(), (new_end("a", ONE[0]), new_end("b", OTHER[0])))
        self.assertEqual((wire.air(), wire.deeds(), wire.stands(), len(wire)), ([], [], ("closed",), 0))
        self.assertIs(wire.busy, False)

    def test_a_talk_by_hand(self):
        wire = Wire(ALIKE, NONE)
        self.assertEqual(wire.do(("open", "a")), [("a", "asking")])
        self.assertEqual(wire.air(), [("b", ("a", "ask", 1, 0, 1, (("a", 2),)))])
        self.assertEqual(wire.do(("come", 0)), [])
        self.assertEqual(wire.air(), [])
        self.assertEqual(wire.do(("open", "b")), [("b", "asking")])
        self.assertEqual(wire.do(("tick", "a")), [])
        self.assertEqual(wire.air(), [("a", ("b", "ask", 1, 0, 1, ())), ("b", ("a", "ask", 1, 0, 1, (("a", 2),)))])
        self.assertEqual(wire.do(("come", 0)), [])
        self.assertEqual(wire.air()[1:], [("b", ("a", "ask", 1, 1, 1, (("a", 2),)))])
        self.assertEqual(wire.do(("come", 1)), [])
        self.assertEqual(wire.air()[1:], [("a", ("b", "ask", 1, 1, 1, ())), ("a", ("b", "no", 1, 1, 1, (("a", 2),)))])
        self.assertEqual(wire.do(("come", 2)), [("a", "closed")])
        self.assertEqual(wire.air()[2:], [("b", ("a", "bye", 1, 1, 0, ()))])
        self.assertEqual(wire.do(("come", 2)), [("b", "closed")])
        self.assertEqual(wire.stands(), ("closed",))

    def test_stands(self):
        wire = Wire(ONE, OTHER)
        self.assertEqual(wire.stands(), ("closed",))
        wire.do(("open", "a"))
        self.assertEqual(wire.stands(), ("else",))
        wire.do(("open", "b"))
        wire.settle()
        self.assertEqual(wire.stands(), ("open", (("a", 1), ("b", 1)), (("c", 1), ("d", 0))))
        # With letters in the air they stand open all the same.
        wire.do(("tick", "b"))
        self.assertEqual(wire.stands()[0], "open")
        wire.do(("close", "b"))
        self.assertEqual(wire.stands(), ("else",))
        wire.do(("close", "a"))
        self.assertEqual(wire.stands(), ("closed",))

    def test_open_with_other_opening_numbers_is_else(self):
        wire = settled(one=NONE, other=NONE)
        self.assertEqual(wire.stands(), ("open", (), ()))
        wire.do(("close", "b"))
        wire.do(("open", "b"))
        # a stands open for b's first opening yet; b for nothing.
        self.assertEqual([part(end, "stand") for end in wire.ends()], ["open", "asking"])
        self.assertEqual(wire.stands(), ("else",))

    def test_what_is_brought(self):
        wire = both(one=NONE, other=NONE)
        brought = []
        while wire.air():
            brought += wire.do(("come", 0))
        self.assertEqual(brought, [("b", "open"), ("a", "open")])
        self.assertEqual(wire.do(("wish", "b", SMALL_WISHES[1])), [("b", "asking")])
        self.assertEqual(wire.do(("lost", 0)), [])
        self.assertEqual(wire.do(("close", "a")), [("a", "closed")])

    def test_tries(self):
        for tries in range(1, 10):
            wire = made(("open", "a"), tries=tries)
            for turn in range(tries):
                self.assertEqual(wire.do(("tick", "a")), [])
            self.assertEqual(wire.do(("tick", "a")), [("a", "closed")])
        wire = made(("open", "a"))
        self.assertEqual([wire.do(("tick", "a")) for turn in range(4)], [[], [], [], [("a", "closed")]])

    def test_echoes(self):
        wire = made(("open", "a"), ("twice", 0), ("twice", 0))
        self.assertEqual([wire.do(("back", 0)) for turn in range(3)], [[], [], [("a", "closed")]])
        self.assertEqual((part(wire.ends()[0], "why"), wire.air()), ("echo", []))

    def test_doubled_letters_go_to_the_end(self):
        wire = both()
        wire.do(("twice", 0))
        first, other, last = wire.air()
        self.assertEqual((first, other[0]), (last, "a"))

    def test_saved(self):
        wire = both(tries=5)
        self.assertEqual(wire.saved(), (ONE, OTHER, 5, wire.ends(), tuple(wire.air())))
        self.assertEqual([type(thing) for thing in wire.saved()], [tuple, tuple, int, tuple, tuple])
        wire.do(("wish", "a", ()))
        self.assertEqual(wire.saved()[:3], (ONE, OTHER, 5))

    def test_len_str_and_repr(self):
        wire = both()
        wire.do(("twice", 1))
        self.assertEqual((len(wire), repr(wire)), (3, "Wire(asking, asking, 3)"))
        self.assertEqual(str(wire), "a asking 1 0 1\nb asking 1 0 1\nto b a ask 1 0 1 a=3\n" + 2 * "to a b ask 1 0 1 c=5 e=1 d=3\n")
        self.assertEqual(str(wire), show_wire(wire))
        self.assertEqual(repr(Wire(ONE, OTHER)), "Wire(closed, closed, 0)")
        self.assertEqual(repr(settled()), "Wire(open, open, 0)")
        self.assertEqual(repr(made(("open", "b"))), "Wire(closed, asking, 1)")


class Alike(unittest.TestCase):
    def test_whatever_deeds_led_there(self):
        one = both()
        other = both()
        self.assertTrue(one == other)
        other.do(("twice", 0))
        self.assertFalse(one == other)
        self.assertTrue(one != other)
        other.do(("lost", 2))
        self.assertTrue(one == other)
        self.assertNotEqual(one.deeds(), other.deeds())
        other.back()
        other.back()
        self.assertTrue(one == other)

    def test_books_tries_ends_and_air(self):
        wire = both()
        self.assertFalse(wire == both(tries=4))
        self.assertTrue(wire == both(tries=3))
        self.assertFalse(Wire(ONE, OTHER) == Wire(OTHER, ONE))
        # Other bounds, which no end has seen yet.
        self.assertFalse(Wire(ONE, OTHER) == Wire((ONE[0], ()), OTHER))
        self.assertFalse(Wire(ONE, OTHER) == Wire(ONE, (OTHER[0], ())))
        # Books that are unlike, though the wishes are the same by now.
        one, other = Wire(ONE, OTHER), Wire(((), ONE[1]), OTHER)
        other.do(("wish", "a", ONE[0]))
        self.assertEqual(one.ends(), other.ends())
        self.assertFalse(one == other)
        wire.do(("tick", "a"))
        wire.do(("lost", 2))
        self.assertFalse(wire == both())

    def test_the_order_in_the_air(self):
        one = made(("open", "a"), ("open", "b"))
        other = made(("open", "b"), ("open", "a"))
        self.assertEqual((one.ends(), sorted(one.air())), (other.ends(), sorted(other.air())))
        self.assertFalse(one == other)

    def test_nothing_else(self):
        wire = both()
        for thing in STRANGE + [wire.saved(), str(wire), wire.ends()]:
            self.assertFalse(wire == thing)
            self.assertFalse(thing == wire)


class Refused(unittest.TestCase):
    def refuses(self, wire, deed, error, **fields):
        before = all_of(wire)
        with self.assertRaises(error, msg=repr(deed)[:80]) as caught:
            wire.do(deed)
        self.assertIs(type(caught.exception), error, repr(deed)[:80])
        self.assertEqual(vars(caught.exception), fields)
        self.assertEqual(all_of(wire), before)
        self.assertIs(wire.busy, False)

    def test_anything_as_deed(self):
        things = STRANGE + [
            (), ("open",), ("open", "a", "b"), ("open", "c"), ("open", None), ("open", 0), ("open", "A"), ("open", ("a",)), ("open", ["a"]),
            ("Open", "a"), ("opened", "a"), (None, "a"), (["open"], "a"), ({}, "a"), ("a", "open"), ["open", "a"], "open a", {"open": "a"},
            ("come",), ("come", 0, 0), ("come", "0"), ("come", None), ("come", True), ("come", False), ("come", -1), ("come", -(10 ** 99)),
            ("come", (0,)), ("come", [0]), ("come", "a"), ["come", 0], ("tick", 0), ("settle",), ("wish", "a"), ("wish", "a", (), ()),
            ("wish", "a", None), ("wish", "a", []), ("wish", "c", ()), ("wish", (), "a"), ("open", "a", ()), ("come", 0, ()), ("echo", 0),
            ("wish", "a", [wish("x")]), ("wish", "a", (["x", (1,), False, None],)), ("wish", "a", (("x", [1], False, None),)),
            ("wish", "a", (("x", (1,), 0, None),)), ("wish", "a", (("x", (True,), False, None),)), ("wish", "a", (wish("x"), wish("x"))),
            ("wish", "a", (wish("x", (1,), False, ("y", 1)), wish("y"))), ("wish", "a", tuple([wish(kind) for kind in "abcdefg"])),
            *[(word, k) for word in ("lost", "twice", "back") for k in (True, False, -1, None, "0", "a")],
        ]
        for wire in (Wire(ONE, OTHER), both(), settled()):
            for thing in things:
                self.refuses(wire, thing, NoDeed)

    def test_what_python_reads_nearly_alike(self):
        wire = both()
        for deed in (("open", "a"), ("come", 0), ("back", 1), ("wish", "b", (wish("b", (3, 1, 2), True), wish("a", (1, 0))))):
            for thing in kin(deed):
                self.refuses(wire, thing, NoDeed)

    def test_no_such_letter(self):
        for wire in (Wire(ONE, OTHER), both()):
            for word in ("come", "lost", "twice", "back"):
                for k in (len(wire), len(wire) + 1, 100, 10 ** 99):
                    self.refuses(wire, (word, k), NoLetter, k=k)

    def test_not_closed_not_open(self):
        wire = made(("open", "a"))
        self.refuses(wire, ("open", "a"), NotClosed)
        self.refuses(wire, ("close", "b"), NotOpen)
        wire = settled()
        for who in "ab":
            self.refuses(wire, ("open", who), NotClosed)
        wire = Wire(ONE, OTHER)
        for who in "ab":
            self.refuses(wire, ("close", who), NotOpen)

    def test_too_many_to_double(self):
        wire = made(("open", "a"))
        for turn in range(99):
            wire.do(("twice", turn))
        self.assertEqual(len(wire), 100)
        for k in (0, 50, 99):
            self.refuses(wire, ("twice", k), TooMany)
        self.refuses(wire, ("twice", 100), NoLetter, k=100)
        self.refuses(wire, ("twice", True), NoDeed)
        # All other deeds are done there; more letters come to the air by them, too.
        wire.do(("open", "b"))
        wire.do(("tick", "a"))
        self.assertEqual(len(wire), 102)
        self.refuses(wire, ("twice", 101), TooMany)
        for k in (101, 100, 0):
            wire.do(("lost", k))
        self.assertEqual(len(wire), 99)
        wire.do(("twice", 98))
        self.assertEqual(len(wire), 100)

    def test_a_field_stays(self):
        wire = both()
        with self.assertRaises(NoLetter) as caught:
            wire.do(("come", 7))
        wire.settle()
        with self.assertRaises(NoLetter):
            wire.do(("come", 9))
        self.assertEqual(caught.exception.k, 7)


class Back(unittest.TestCase):
    def test_to_the_first_deed(self):
        for seed in range(30):
            dice = random.Random(seed)
            wire = Wire(dice.choice(BOOKS), dice.choice(BOOKS), tries=dice.randint(1, 9))
            told = [all_of(wire)]
            for turn in range(25):
                lead(dice, wire, 1, SMALL_WISHES)
                told.append(all_of(wire))
            while len(told) > 1:
                self.assertEqual(all_of(wire), told.pop())
                self.assertIsNone(wire.back())
            self.assertEqual(all_of(wire), told[0])
            self.refuses(wire)

    def refuses(self, wire):
        before = all_of(wire)
        with self.assertRaises(NoBack) as caught:
            wire.back()
        self.assertIs(type(caught.exception), NoBack)
        self.assertEqual(all_of(wire), before)

    def test_no_deed_yet(self):
        wire = Wire(ONE, OTHER)
        self.refuses(wire)
        with self.assertRaises(NoDeed):
            wire.do(None)
        self.refuses(wire)

    def test_each_deed_of_settling_by_itself(self):
        wire = both()
        start = all_of(wire)
        wire.settle()
        many = len(wire.deeds())
        for turn in range(many - 2):
            wire.back()
        self.assertEqual(all_of(wire), start)

    def test_goes_on_otherwise(self):
        wire = both()
        wire.do(("come", 0))
        wire.back()
        wire.do(("come", 1))
        self.assertEqual(wire.deeds(), [("open", "a"), ("open", "b"), ("come", 1)])


class Settle(unittest.TestCase):
    def plainly(self, wire):
        """The deeds by which point 16 settles a wire."""
        wire = wire.twin()
        came = 0

        def is_done():
            return wire.stands() == ("closed",) or wire.stands()[0] == "open" and not wire.air()
        while not is_done():
            if wire.air():
                wire.do(("come", 0))
                came += 1
            else:
                for who, at in (("a", 0), ("b", 1)):
                    if part(wire.ends()[at], "stand") != "closed":
                        wire.do(("tick", who))
        return came, wire

    def settles(self, wire):
        came, due = self.plainly(wire)
        told = wire.settle()
        self.assertEqual((told, type(told)), (came, int))
        self.assertEqual(all_of(wire), all_of(due))
        self.assertLessEqual(came, 100 * (1 + sum([worths_of(part(end, "wishes")) for end in wire.ends()])))
        again = all_of(wire)
        self.assertEqual(wire.settle(), 0)
        self.assertEqual(all_of(wire), again)

    def test_from_new(self):
        wire = Wire(ONE, OTHER)
        self.assertEqual(wire.settle(), 0)
        self.assertEqual((wire.deeds(), wire.stands()), ([], ("closed",)))

    def test_from_one_end_open(self):
        for who in "ab":
            for tries in (2, 3, 9):
                wire = made(("open", who), tries=tries)
                self.settles(wire)
                # Each letter came to a closed end that it doesn't know; so it ticked till it gave up.
                self.assertEqual(wire.stands(), ("closed",))
                self.assertEqual(wire.deeds().count(("tick", who)), tries + 1)
                self.assertEqual(len(wire.deeds()), 1 + tries + 1 + tries + 1)

    def test_the_deeds_are_those_told(self):
        for one in BOOKS:
            for other in BOOKS:
                for tries in (2, 3, 9):
                    for first in ("ab", "ba", "a", "b"):
                        self.settles(made(*[("open", who) for who in first], one=one, other=other, tries=tries))

    def test_behind_lost_and_doubled_letters(self):
        for seed in range(150):
            dice = random.Random(seed)
            wire = both(one=dice.choice(BOOKS), other=dice.choice(BOOKS), tries=dice.randint(2, 5))
            lead(dice, wire, dice.randrange(40), SMALL_WISHES if seed % 2 else ())
            self.settles(wire)

    def test_all_lost(self):
        wire = both(one=NONE, other=NONE)
        wire.do(("lost", 0))
        wire.do(("lost", 0))
        self.settles(wire)
        self.assertEqual(wire.deeds()[4:6], [("tick", "a"), ("tick", "b")])
        self.assertEqual(wire.stands(), ("open", (), ()))

    def test_closed_ends_leave_the_air_as_it_is(self):
        wire = made(("open", "a"), ("close", "a"))
        self.assertEqual((wire.settle(), len(wire)), (0, 2))
        self.assertEqual(wire.deeds(), [("open", "a"), ("close", "a")])

    def test_open_with_letters_in_the_air(self):
        wire = settled()
        wire.do(("tick", "a"))
        wire.do(("twice", 0))
        self.assertEqual(wire.stands()[0], "open")
        self.assertEqual(wire.settle(), 4)
        self.assertEqual(len(wire), 0)

    def test_one_end_open_alone(self):
        wire = settled()
        wire.do(("close", "b"))
        wire.do(("lost", 0))
        self.settles(wire)
        self.assertEqual(wire.stands(), ("closed",))
        self.assertEqual(part(wire.ends()[0], "why"), "bye")


class Busy(unittest.TestCase):
    def test_just_while_it_does_a_deed_or_settles(self):
        wire = both()
        seen = []

        def looked(*args, **more):
            seen.append(wire.busy)
            return kept(*args, **more)
        kept = module.state_behind
        with mock.patch.object(module, "state_behind", looked):
            wire.do(("come", 0))
            self.assertIs(wire.busy, False)
            wire.settle()
            self.assertIs(wire.busy, False)
            with self.assertRaises(NotClosed):
                wire.do(("open", "a"))
            self.assertIs(wire.busy, False)
        self.assertEqual(set(seen), {True})
        self.assertEqual(len(seen), len(wire.deeds()) - 2 + 1)

    def test_between_the_deeds_of_settling_too(self):
        wire = both()
        seen = []

        def looked(state):
            seen.append(wire.busy)
            return kept(state)
        kept = module.is_settled
        with mock.patch.object(module, "is_settled", looked):
            wire.settle()
        self.assertGreater(len(seen), 5)
        self.assertEqual(set(seen), {True})
        self.assertIs(wire.busy, False)

    def test_not_behind_a_refusal(self):
        wire = Wire(ONE, OTHER)
        for deed in (None, ("come", 0), ("close", "a")):
            with self.assertRaises((NoDeed, NoLetter, NotOpen)):
                wire.do(deed)
            self.assertIs(wire.busy, False)
        with self.assertRaises(NoBack):
            wire.back()
        self.assertIs(wire.busy, False)


class Twin(unittest.TestCase):
    def test_stands_as_it_does_and_by_itself(self):
        for seed in range(20):
            dice = random.Random(seed)
            wire = both(one=dice.choice(BOOKS), other=dice.choice(BOOKS), tries=dice.randint(1, 9))
            lead(dice, wire, 20, SMALL_WISHES)
            twin = wire.twin()
            self.assertIs(type(twin), Wire)
            before = all_of(wire)
            self.assertEqual(all_of(twin), before)
            self.assertTrue(wire == twin)
            lead(dice, twin, 10, SMALL_WISHES)
            self.assertEqual(all_of(wire), before)
            led = all_of(twin)
            lead(dice, wire, 10, SMALL_WISHES)
            self.assertEqual(all_of(twin), led)
            for turn in range(10):
                twin.back()
            self.assertEqual(all_of(twin), before)

    def test_back_to_the_first_deed(self):
        wire = both()
        twin = wire.twin()
        for turn in range(2):
            twin.back()
        self.assertTrue(twin == Wire(ONE, OTHER))
        self.assertEqual(len(wire.deeds()), 2)
        with self.assertRaises(NoBack):
            twin.back()


class WhatStays(unittest.TestCase):
    def test_lists_that_were_told_may_be_changed(self):
        wire = both()
        before = all_of(wire)
        for told in (wire.air(), wire.deeds(), wire.do(("tick", "a"))):
            told.append(None)
            told.reverse()
            told.clear()
        wire.back()
        self.assertEqual(all_of(wire), before)
        kept = wire.air(), wire.deeds(), wire.do(("come", 0))
        copies = copy.deepcopy(kept)
        wire.settle()
        wire.back()
        self.assertEqual(kept, copies)

    def test_what_was_told_stays(self):
        wire = both()
        told = (wire.ends(), wire.air(), wire.deeds(), wire.stands(), wire.saved(), str(wire))
        copies = copy.deepcopy(told)
        wire.settle()
        wire.do(("close", "a"))
        for turn in range(4):
            wire.back()
        self.assertEqual(told, copies)

    def test_what_is_handed_in_stays(self):
        one, other, deed = copy.deepcopy((ONE, OTHER, ("wish", "a", SMALL_WISHES[3])))
        wire = Wire(one, other)
        wire.do(deed)
        wire.do(("open", "a"))
        wire.settle()
        self.assertEqual((one, other, deed), (ONE, OTHER, ("wish", "a", SMALL_WISHES[3])))

    def test_plain_kinds(self):
        wire = both()
        told = [wire.do(("close", "a")), wire.ends(), wire.air(), wire.deeds(), wire.stands(), wire.saved(), wire.settle(), wire.busy, str(wire)]
        self.assertEqual([type(thing) for thing in told], [list, tuple, list, list, tuple, tuple, int, bool, str])
        self.assertEqual({type(thing) for thing in wire.air() + wire.deeds()}, {tuple})

    def test_wires_beside_one_another(self):
        one, other = both(), both()
        other.settle()
        self.assertEqual(len(one), 2)
        self.assertEqual(len(one.deeds()), 2)


if __name__ == "__main__":
    unittest.main()
