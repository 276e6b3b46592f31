"""Points 21 and 22: talks, done from the first deed or from a middle."""

import copy
import random
import unittest

from crossedwishes.errors import NoDeed, NoLetter, NoSaved, NotClosed, NotOpen, NoTalk, TooMany
from crossedwishes.talks import first_apart, is_talk, longest_alone, stands_behind, told_on, wire_behind, wire_of
from crossedwishes.wire import Wire
from tests.things import BOOKS, END_PARTS, SMALL_WISHES, STRANGE, kin, lead, part, wish, with_parts

ONE, OTHER = BOOKS[0], BOOKS[1]
NONE = ((), ())
OPENS = [("open", "a"), ("open", "b")]
REFUSALS = (NoDeed, NoLetter, NotClosed, NotOpen, TooMany)
# Each can't be done at its place, by another refusal.
WRONG = [
    (OPENS + [None], 2), (OPENS + [("come", 2)], 2), (OPENS + [("open", "a")], 2), ([("close", "a")], 0), ([("come", 0)] + OPENS, 0),
    (OPENS + [("come", True)] + OPENS, 2), (OPENS + [["come", 0]], 2), ([("open", "a")] + [("twice", 0)] * 99 + [("come", 0), ("tick", "a"), ("twice", 0)], 102),
    ([()], 0), ([[]], 0), ([OPENS], 0), (OPENS + [("wish", "a", [])], 2), (OPENS + ["tick a"], 2),
]


def led(seed, many=40, wishes=SMALL_WISHES, tries=3):
    dice = random.Random(seed)
    one, other = dice.choice(BOOKS), dice.choice(BOOKS)
    wire = Wire(one, other, tries=tries)
    lead(dice, wire, many, wishes)
    return one, other, wire


class IsTalk(unittest.TestCase):
    def test_those_that_can_be_done(self):
        for talk in ([], OPENS, OPENS + [("come", 1), ("come", 0)], [("wish", "a", ())], [("tick", "b")] * 300):
            self.assertIs(is_talk(ONE, OTHER, talk), True)
        for seed in range(40):
            one, other, wire = led(seed)
            for many in range(len(wire.deeds()) + 1):
                self.assertIs(is_talk(one, other, wire.deeds()[:many]), True)

    def test_those_that_cannot(self):
        for talk, at in WRONG:
            self.assertIs(is_talk(ONE, OTHER, talk), False)
            self.assertIs(is_talk(ONE, OTHER, talk[:at]), True)

    def test_all_of_it(self):
        self.assertIs(is_talk(ONE, OTHER, OPENS + [("come", 0)] * 3 + [None]), False)

    def test_anything(self):
        for thing in STRANGE + [tuple(OPENS), "open a\n", None, {("open", "a"): 1}, [tuple(OPENS)]]:
            self.assertIs(is_talk(ONE, OTHER, thing), thing == [], repr(thing)[:80])
        for thing in kin(OPENS + [("come", 1), ("wish", "a", (wish("x", (1, 2)),))]):
            if isinstance(thing, list):
                self.assertIs(is_talk(ONE, OTHER, thing), False, thing)
            else:
                self.assertIs(is_talk(ONE, OTHER, thing), False)

    def test_by_books_and_tries(self):
        talk = [("open", "a")] + [("tick", "a")] * 3 + [("close", "a")]
        self.assertIs(is_talk(ONE, OTHER, talk), True)
        self.assertIs(is_talk(ONE, OTHER, talk, tries=2), False)
        self.assertIs(is_talk(ONE, OTHER, talk, tries=9), True)


class Behind(unittest.TestCase):
    def test_the_wire(self):
        for seed in range(30):
            tries = seed % 9 + 1
            one, other, wire = led(seed, tries=tries)
            told = wire_behind(one, other, wire.deeds(), tries=tries)
            self.assertIs(type(told), Wire)
            self.assertTrue(told == wire)
            self.assertEqual(told.deeds(), wire.deeds())
            self.assertIs(told.busy, False)
            # It can be led on and back.
            for turn in range(40):
                told.back()
            self.assertTrue(told == Wire(one, other, tries=tries))

    def test_the_stands(self):
        for seed in range(30):
            tries = seed % 9 + 1
            one, other, wire = led(seed, tries=tries)
            told = stands_behind(one, other, wire.deeds(), tries=tries)
            self.assertIs(type(told), list)
            while wire.deeds():
                self.assertEqual(told.pop(), wire.stands())
                wire.back()
            self.assertEqual(told, [])
        self.assertEqual(stands_behind(ONE, OTHER, []), [])
        self.assertEqual(stands_behind(NONE, NONE, OPENS + [("come", 0)] * 5), [("else",)] * 7)
        self.assertEqual(stands_behind(NONE, NONE, OPENS + [("come", 0)] * 6 + [("close", "a"), ("close", "b")])[7:],
                         [("open", (), ()), ("else",), ("closed",)])

    def test_refused(self):
        for talk, at in WRONG:
            for told in (wire_behind, stands_behind, longest_alone, lambda *args: first_apart(*args, []), lambda one, other, talk: first_apart(one, other, [], talk)):
                with self.assertRaises(NoTalk) as caught:
                    told(ONE, OTHER, talk)
                self.assertIs(type(caught.exception), NoTalk)
                self.assertEqual(vars(caught.exception), {"at": at})

    def test_refused_of_anything_that_stands_there(self):
        for thing in STRANGE:
            for at in (0, 1, 2):
                talk = OPENS[:at] + [thing] + OPENS[at:]
                with self.assertRaises(NoTalk) as caught:
                    wire_behind(ONE, OTHER, talk)
                self.assertEqual(caught.exception.at, at)

    def test_the_first_that_cannot_be_done(self):
        with self.assertRaises(NoTalk) as caught:
            stands_behind(ONE, OTHER, OPENS + [("come", 0), ("open", "b"), None])
        self.assertEqual(caught.exception.at, 3)


class LongestAlone(unittest.TestCase):
    def plainly(self, one, other, talk, tries=3):
        wire = Wire(one, other, tries=tries)
        signs = ""
        for deed in talk:
            wire.do(deed)
            is_alone = "open" in [part(end, "stand") for end in wire.ends()] and wire.stands()[0] != "open"
            signs += "x" if is_alone else " "
        return max([len(run) for run in signs.split(" ")])

    def test_led_talks(self):
        found = set()
        for seed in range(150):
            tries = seed % 9 + 1
            one, other, wire = led(seed, 60, SMALL_WISHES if seed % 2 else (), tries)
            due = self.plainly(one, other, wire.deeds(), tries)
            self.assertEqual(longest_alone(one, other, wire.deeds(), tries=tries), due)
            found.add(due)
        self.assertGreater(len(found), 5)

    def test_by_hand(self):
        self.assertEqual(longest_alone(NONE, NONE, []), 0)
        self.assertEqual(longest_alone(NONE, NONE, OPENS), 0)
        talk = OPENS + [("come", 0)] * 6
        alone = longest_alone(NONE, NONE, talk)
        self.assertEqual(alone, self.plainly(NONE, NONE, talk))
        # a is left behind: as long as deeds come one behind another.
        self.assertEqual(longest_alone(NONE, NONE, talk + [("close", "b")] + [("tick", "b")] * 7), 8)
        # The ends come to stand open with one another between, so the longer of two runs counts.
        talk += [("wish", "a", ())] + [("come", 0)] * 2 + [("wish", "a", ()), ("tick", "b"), ("lost", 1), ("come", 0), ("come", 0)]
        self.assertEqual(longest_alone(NONE, NONE, talk), self.plainly(NONE, NONE, talk))
        self.assertEqual(longest_alone(NONE, NONE, talk), 4)


class FirstApart(unittest.TestCase):
    def plainly(self, one, other, talk, mate):
        here, there = Wire(one, other), Wire(one, other)
        for at, (deed, beside) in enumerate(zip(talk, mate)):
            here.do(deed)
            there.do(beside)
            if not here == there:
                return at
        return None if len(talk) == len(mate) else min(len(talk), len(mate))

    def test_by_hand(self):
        self.assertIsNone(first_apart(ONE, OTHER, [], []))
        self.assertIsNone(first_apart(ONE, OTHER, OPENS, list(OPENS)))
        self.assertEqual(first_apart(ONE, OTHER, [], OPENS), 0)
        self.assertEqual(first_apart(ONE, OTHER, OPENS, OPENS[:1]), 1)
        self.assertEqual(first_apart(ONE, OTHER, OPENS, OPENS[::-1]), 0)
        self.assertEqual(first_apart(ONE, OTHER, OPENS + [("come", 0)], OPENS + [("come", 1)]), 2)
        # Unlike deeds, but the wires are alike.
        self.assertIsNone(first_apart(ONE, OTHER, [("tick", "a")], [("tick", "b")]))
        self.assertIsNone(first_apart(ONE, OTHER, [("tick", "a")], [("wish", "a", ONE[0])]))
        self.assertEqual(first_apart(ONE, OTHER, [("tick", "a")], [("tick", "b"), ("tick", "b")]), 1)
        # Apart, and together again: the first counts.
        self.assertEqual(first_apart(ONE, OTHER, [("wish", "a", ()), ("wish", "a", ONE[0])], [("tick", "a")] * 2), 0)

    def test_led_talks(self):
        found = set()
        for seed in range(120):
            dice = random.Random(seed)
            one, other, wire = led(seed, 12)
            mate = wire.twin()
            for turn in range(dice.randrange(12)):
                mate.back()
            lead(dice, mate, dice.randrange(6), SMALL_WISHES)
            due = self.plainly(one, other, wire.deeds(), mate.deeds())
            self.assertEqual(first_apart(one, other, wire.deeds(), mate.deeds()), due)
            self.assertEqual(first_apart(one, other, mate.deeds(), wire.deeds()), due)
            found.add(due)
        self.assertIn(None, found)
        self.assertGreater(len(found), 6)

    def test_by_tries(self):
        talk = [("open", "a")] + [("tick", "a")] * 2
        mate = [("open", "a"), ("tick", "a"), ("close", "a")]
        self.assertEqual(first_apart(ONE, OTHER, talk, mate), 2)
        # With one try the second tick closes, too, but why it was closed is another.
        self.assertEqual(first_apart(ONE, OTHER, talk, mate, tries=1), 2)
        self.assertIsNone(first_apart(ONE, OTHER, talk, talk, tries=1))

    def test_refused_of_the_first_talk_then_of_the_other(self):
        wrong, worse = OPENS + [("come", 0), None], OPENS + [None]
        for talk, mate, at in ((wrong, OPENS, 3), (OPENS, wrong, 3), (wrong, worse, 3), (worse, wrong, 2), (wrong, [], 3), ([], wrong, 3),
                               ([("tick", "a")], worse, 2)):
            with self.assertRaises(NoTalk) as caught:
                first_apart(ONE, OTHER, talk, mate)
            self.assertEqual(caught.exception.at, at)


class FromAMiddle(unittest.TestCase):
    def test_at_every_middle_of_a_talk(self):
        for seed in range(25):
            tries = seed % 9 + 1
            one, other, wire = led(seed, tries=tries)
            deeds = wire.deeds()
            for many in range(len(deeds) + 1):
                middle = wire_behind(one, other, deeds[:many], tries=tries)
                saved = middle.saved()
                told = wire_of(saved)
                self.assertIs(type(told), Wire)
                self.assertTrue(told == middle)
                self.assertEqual((told.saved(), told.deeds(), told.busy), (saved, [], False))
                on = told_on(saved, deeds[many:])
                self.assertTrue(on == wire)
                self.assertEqual(on.deeds(), deeds[many:])
                self.assertEqual(str(on), str(wire))

    def test_the_deeds_are_those_since_it_was_made(self):
        one, other, wire = led(3)
        on = told_on(wire.saved(), [("tick", "a"), ("tick", "b")])
        on.back()
        on.back()
        self.assertTrue(on == wire)
        with self.assertRaises(LookupError):
            on.back()

    def test_refused_deeds(self):
        wire = wire_behind(ONE, OTHER, OPENS)
        for deeds, at in (([None], 0), ([("come", 0), ("open", "a")], 1), ([("come", 9)], 0), ([("close", "a"), ("close", "a")], 1)):
            with self.assertRaises(NoTalk) as caught:
                told_on(wire.saved(), deeds)
            self.assertEqual(vars(caught.exception), {"at": at})

    def test_saved_is_looked_at_first(self):
        for deeds in ([], [None]):
            with self.assertRaises(NoSaved) as caught:
                told_on(None, deeds)
            self.assertEqual(vars(caught.exception), {})

    def test_what_is_saved_is_read_back_whatever_it_came_by(self):
        wire = wire_behind(NONE, NONE, OPENS + [("come", 0)] * 6)
        self.assertEqual(told_on(wire.saved(), [("close", "a")]).stands(), ("else",))


def saved_with(saved, **parts):
    """What was saved, with parts of the first end otherwise."""
    one, other, tries, ends, air = saved
    return (one, other, tries, (with_parts(ends[0], **parts), ends[1]), air)


class NoSavedClauses(unittest.TestCase):
    def setUp(self):
        self.wire = wire_behind(ONE, OTHER, OPENS + [("come", 0)] * 5 + [("twice", 0)])
        self.saved = self.wire.saved()
        self.assertIsNotNone(part(self.saved[3][0], "last"))
        self.assertGreater(len(self.saved[4]), 1)

    def lets(self, thing):
        wire = wire_of(thing)
        self.assertEqual(wire.saved(), thing)
        self.assertEqual((list(wire.ends()), wire.air()), (list(thing[3]), list(thing[4])))

    def refuses(self, thing):
        with self.assertRaises(NoSaved, msg=repr(thing)[:200]) as caught:
            wire_of(thing)
        self.assertIs(type(caught.exception), NoSaved)
        with self.assertRaises(NoSaved):
            told_on(thing, [])

    def both(self, name, good, bad):
        """Of a part of an end things that are let by, and others."""
        for thing in good:
            self.lets(saved_with(self.saved, **{name: thing}))
        for thing in bad:
            self.refuses(saved_with(self.saved, **{name: thing}))

    def test_anything(self):
        self.lets(self.saved)
        for thing in STRANGE + [self.saved[:4], self.saved + ((),), list(self.saved), self.wire, str(self.wire), (self.saved,)]:
            self.refuses(thing)
        for at in range(5):
            for thing in STRANGE:
                self.refuses(self.saved[:at] + (thing,) + self.saved[at + 1:])

    def test_all_that_python_reads_nearly_alike(self):
        """Each part of a wrong kind; what is right by its form nonetheless is left out."""
        let_by = 0
        for thing in kin(self.saved):
            try:
                wire_of(thing)
                let_by += 1
            except NoSaved:
                pass
        # Needs, given, took and last may be None, and why may be any text: upper, with a line end, a blank.
        for name in ("given", "took", "last"):
            self.lets(saved_with(self.saved, **{name: None}))
        self.assertLess(let_by, 20)

    def test_books(self):
        one, other, *more = self.saved
        for book in (NONE, OTHER, ((), ()), ((wish("x"),), (("y", (1,)),))):
            self.lets((book, other, *more))
            self.lets((one, book, *more))
        for book in (None, (), ((),), ((), (), ()), [(), ()], ((wish("x", ()),), ()), ((wish("x"), wish("x")), ()), ((), (("x", ()),)),
                     ((wish("x", (True,)),), ()), ((("x", (1,), 1, None),), ()), ((), [("x", (1,))])):
            self.refuses((book, other, *more))
            self.refuses((one, book, *more))

    def test_tries(self):
        one, other, tries, ends, air = self.saved
        for tries in range(3, 10):
            self.lets((one, other, tries, ends, air))
        for tries in (0, 10, -1, True, None, "3", (3,), 10 ** 99):
            self.refuses((one, other, tries, ends, air))
        # The ends have three left, so fewer tries won't do.
        for tries in (1, 2):
            self.refuses((one, other, tries, ends, air))
            less = tuple([with_parts(end, tries=tries) for end in ends])
            self.lets((one, other, tries, less, air))
            self.refuses((one, other, tries, (less[0], with_parts(less[1], tries=tries + 1)), air))
        low = tuple([with_parts(end, tries=True) for end in ends])
        self.refuses((one, other, 3, low, air))

    def test_two_ends_named_a_and_b(self):
        one, other, tries, ends, air = self.saved
        for wrong in ((), ends[:1], ends + ends[:1], ends[::-1], list(ends), (ends[0], ends[0]), (ends[1], ends[1]), None, (None, None),
                      (list(ends[0]), ends[1]), (ends[0], ends[1][:14]), (ends[0] + ("",), ends[1])):
            self.refuses((one, other, tries, wrong, air))
        self.both("name", [], ["b", "c", "A", "", None, ("a",), 0])

    def test_wishes(self):
        self.both("wishes", [ONE[0]], [None, [], list(ONE[0]), (None,), ONE[0] + ONE[0], (wish("x"),), OTHER[0], ()])
        # Other wishes with a plan of theirs, or none.
        for wishes in SMALL_WISHES:
            self.lets(saved_with(self.saved, wishes=wishes, plan=()))
            plan = tuple([(one[0], one[1]) for one in wishes])
            self.lets(saved_with(self.saved, wishes=wishes, plan=plan))

    def test_stands(self):
        # As they are told, whatever given and took would tell.
        self.both("stand", ["closed", "asking", "open"], ["", "Open", "else", "open ", None, True, 0, ("open",), ["open"]])

    def test_numbers(self):
        for name in ("turn", "yours", "number", "heard", "echoes"):
            self.both(name, [0, 1, 2, 3, 17, 10 ** 99], [-1, True, False, None, "1", (1,), [1], -(10 ** 99)])
        self.both("tries", [0, 1, 2, 3], [4, 10 ** 99, -1, True, False, None, "1"])

    def test_plan(self):
        # The wishes: a of 3, 1, 2, which must be, and b of 1.
        full = (("a", (3, 1, 2)), ("b", (1,)))
        self.both("plan", [
            (), full, (("a", ()), ("b", ())), (("a", (2, 3)), ("b", ())), (("a", (1,)), ("b", (1,))), (("a", (2, 1, 3)), ("b", (1,))),
        ], [
            None, [], list(full), full[:1], full + full[:1], full[::-1], (("a", (3, 1, 2)), ("c", (1,))), (("a", (4,)), ("b", ())), (("a", (3, 3)), ("b", ())),
            (("a", [3]), ("b", ())), (["a", (3,)], ("b", ())), (("a", (3,), 1), ("b", ())), (("a",), ("b", ())), (("a", (True,)), ("b", ())),
            (("a", (3,)), ("b", (True,))), (("a", None), ("b", ())), (("a", 3), ("b", ())), (("a", ("3",)), ("b", ())), (("a", ((3,),)), ("b", ())),
            ((), ()), "", 0, (("a", ([],)), ("b", ())),
        ])

    def test_refused(self):
        self.both("refused", [
            (), (("a", 3),), (("a", -1),), (("a", -1), ("a", 0), ("a", 9999)), (("a", 3), ("zinc", -1)), (("zinc", 0),),
            tuple([("a", worth) for worth in range(100)]),
        ], [
            None, [], [("a", 3)], (("a", 3), ("a", 3)), (("a", 3), ("a", 1)), (("b", 1), ("a", 1)), (("a", -2),), (("a", 10000),), (("a", True),),
            (("a", False),), (("A", 1),), (("", 1),), (("a",),), (("a", 1, 1),), (["a", 1],), (("a", None),), (("a", "1"),), (None,), ((1, "a"),), (([], 1),),
        ])

    def test_given_and_took(self):
        six = tuple([(kind, 1) for kind in "abcdef"])
        for name in ("given", "took"):
            self.both(name, [None, (), (("zinc", 0),), (("b", 1), ("a", 9999)), six], [
                [], [("a", 1)], (("a", 1), ("a", 2)), (("a", -1),), (("a", 10000),), (("a", True),), (("A", 1),), (("a",),), (["a", 1],), six + (("g", 1),),
                False, 0, "", ((),),
            ])

    def test_last(self):
        good = [None] + [("a", word, 1, 0, 1, pairs) for word in ("yes", "no", "rather") for pairs in ((), (("x", 1),))]
        self.both("last", good + [("a", "yes", 10 ** 99, 10 ** 99, 10 ** 99, ())], [
            ("b", "yes", 1, 0, 1, ()), ("c", "no", 1, 0, 1, ()), ("a", "ask", 1, 0, 1, ()), ("a", "bye", 1, 0, 0, ()), ("a", "here", 1, 0, 0, ()),
            ("a", "there", 1, 0, 0, ()), ("a", "yes", 0, 0, 1, ()), ("a", "yes", 1, 0, 0, ()), ("a", "yes", 1, 0, True, ()), ["a", "yes", 1, 0, 1, ()],
            ("a", "yes", 1, 0, 1, []), ("a", "yes", 1, 0, 1), (), False, "", 0,
        ])
        # Of the other end its own letters, too.
        one, other, tries, ends, air = self.saved
        self.refuses((one, other, tries, (ends[0], with_parts(ends[1], last=("a", "yes", 1, 0, 1, ()))), air))
        self.lets((one, other, tries, (ends[0], with_parts(ends[1], last=("b", "yes", 1, 0, 1, ()))), air))

    def test_why(self):
        self.both("why", ["", "new", "closed", "tries", "beneath", "x\n", "~" * 20000], [None, True, 0, (), [], ("new",), b"new"])

    def test_air(self):
        one, other, tries, ends, air = self.saved
        ask, bye = ("b", "ask", 1, 0, 1, (("x", 1),)), ("a", "bye", 1, 1, 0, ())
        for good in ((), (("a", ask),), (("b", ask), ("a", bye), ("b", bye)), (("a", ("c", "yes", 1, 0, 1, ())),), (("a", ask),) * 200):
            self.lets((one, other, tries, ends, good))
        for bad in (None, [], [("a", ask)], (ask,), (("c", ask),), (("a", None),), (("a",),), (("a", ask, 0),), (["a", ask],), (("a", list(ask)),), ((None, ask),),
                    (("a", ask),) * 201, (("a", ("b", "ask", 1, 0, 0, ())),), (("a", ask), None), (([], ask),), ((0, ask),), (("a", ("b", "bye", 1, 0, False, ())),)):
            self.refuses((one, other, tries, ends, bad))

    def test_let_by_though_no_deeds_come_to_it(self):
        thing = saved_with(self.saved, stand="open", given=None, took=None, plan=(), number=0, turn=9, last=None, heard=7)
        wire = wire_of(thing)
        self.assertEqual(part(wire.ends()[0], "stand"), "open")
        self.assertEqual(wire.do(("close", "a")), [("a", "closed")])
        closed = wire_of(saved_with(self.saved, stand="closed"))
        self.assertEqual(closed.do(("open", "a")), [("a", "asking")])

    def test_each_part_of_an_end_is_looked_at(self):
        for at, name in enumerate(END_PARTS):
            for thing in ([], {}, True, ((),)):
                self.refuses(saved_with(self.saved, **{name: thing}))

    def test_letters_of_whatever_who_come_and_come_back(self):
        one, other, tries, ends, air = self.saved
        echoes = [part(end, "echoes") for end in ends]
        for to, who, come, back in (("a", "b", "a", "b"), ("b", "a", "b", "a"), ("a", "c", "a", "b"), ("b", "c", "b", "a"), ("a", "a", "a", "a"), ("b", "b", "b", "b")):
            for word, at in (("come", come), ("back", back)):
                wire = wire_of((one, other, tries, ends, ((to, (who, "here", 1, 1, 0, ())),)))
                wire.do((word, 0))
                # The end that hears its own name counts an echo; one of another name is answered.
                heard_echoes = ["ab".index(at)] if who == at else []
                self.assertEqual([part(end, "echoes") for end in wire.ends()], [many + (number in heard_echoes) for number, many in enumerate(echoes)])
                self.assertEqual(wire.air(), [] if who == at else [("b" if at == "a" else "a", (at, "there", 1, 1, 0, ()))])


class WhatStays(unittest.TestCase):
    def test_handed_in_and_told(self):
        one, other, wire = led(7)
        talk = wire.deeds()
        kept = copy.deepcopy((one, other, talk, wire.saved()))
        told = stands_behind(one, other, talk)
        copied = list(told)
        told.clear()
        self.assertEqual(stands_behind(one, other, talk), copied)
        behind = wire_behind(one, other, talk)
        on = told_on(wire.saved(), talk[:0])
        is_talk(one, other, talk)
        longest_alone(one, other, talk)
        first_apart(one, other, talk, talk)
        self.assertEqual((one, other, talk, wire.saved()), kept)
        # What is done to the talk behind the call changes nothing of the wire.
        talk.append(None)
        talk[0] = None
        self.assertEqual(behind.deeds(), kept[2])
        behind.do(("tick", "a"))
        self.assertTrue(on == wire)


if __name__ == "__main__":
    unittest.main()
