"""Point 18: what would be unsafe, and lesser ends, with whom it comes to be."""

import copy
import itertools
import random
import unittest

from crossedwishes.ends import closing, new_end, opened, ticked, wished
from crossedwishes.hearing import heard
from crossedwishes.letters import LETTER_WORDS
from crossedwishes.talks import wire_of
from crossedwishes.unsafe import fall, lesser_heard, unsafe
from crossedwishes.wire import Wire
from tests import test_hearing
from tests.test_hearing import BOUNDS, CLOSED, FRESH, KNOWS, NEW, OPEN, letter
from tests.things import BOOKS, SMALL_WISHES, lead, other_name, part, some_deed, wish, with_parts

ONE, OTHER = BOOKS[0], BOOKS[1]


def settled(one=ONE, other=OTHER):
    wire = Wire(one, other)
    wire.do(("open", "a"))
    wire.do(("open", "b"))
    wire.settle()
    return wire


def put_otherwise(wire, first=(), second=()):
    """The wire told from a middle whose ends are put otherwise."""
    one, other, tries, ends, air = wire.saved()
    return wire_of((one, other, tries, (with_parts(ends[0], **dict(first)), with_parts(ends[1], **dict(second))), air))


class Unsafe(unittest.TestCase):
    def tells(self, wire, *words):
        told = unsafe(wire)
        self.assertEqual(told, list(words))
        self.assertIs(type(told), list)

    def test_none_on_wires_of_any_deeds(self):
        opens = 0
        for seed in range(200):
            dice = random.Random(seed)
            wire = Wire(dice.choice(BOOKS), dice.choice(BOOKS), tries=dice.randint(1, 4))
            self.tells(wire)
            for turn in range(60):
                lead(dice, wire, 1, SMALL_WISHES if seed % 2 else ())
                self.tells(wire)
                opens += wire.stands()[0] == "open"
        self.assertGreater(opens, 500)

    def test_unlike(self):
        wire = settled()
        self.tells(wire)
        given, took = part(wire.ends()[0], "given"), part(wire.ends()[0], "took")
        # What was given is less, so no worth is beyond.
        self.tells(put_otherwise(wire, first={"given": given[:1]}), "unlike")
        self.tells(put_otherwise(wire, first={"given": given[::-1]}), "unlike")
        self.tells(put_otherwise(wire, first={"given": ()}), "unlike")
        self.tells(put_otherwise(wire, first={"took": took[:1]}), "unlike")
        self.tells(put_otherwise(wire, first={"took": ()}), "unlike")
        self.tells(put_otherwise(wire, second={"given": took[:1]}), "unlike")
        self.tells(put_otherwise(wire, second={"took": ()}), "unlike")
        # What the one took may be whatever; only what was given is looked at by its worths.
        self.tells(put_otherwise(wire, second={"took": (("zinc", 4),)}), "unlike")
        self.tells(put_otherwise(wire, first={"given": given[:1]}, second={"took": given[:1]}))

    def test_unlike_of_given_or_took_that_are_not_there(self):
        wire = settled(((), ()), ((), ()))
        self.tells(put_otherwise(wire, first={"given": None}), "unlike")
        self.tells(put_otherwise(wire, second={"took": None}), "unlike")
        self.tells(put_otherwise(wire, first={"given": None}, second={"took": None}))

    def test_beyond(self):
        wire = settled()
        # a wishes a of 3, 1, 2 and b of 1; b bears a of 1, 2 and b of 1.
        for pairs in ((("a", 3),), (("a", 0),), (("b", 2),), (("zinc", 1),), (("c", 1),), (("a", 1), ("b", 3))):
            self.tells(put_otherwise(wire, first={"given": pairs}, second={"took": pairs}), "beyond")
        for pairs in ((("a", 2),), (("a", 1),), (), (("b", 1),)):
            self.tells(put_otherwise(wire, first={"given": pairs}, second={"took": pairs}))
        # b wishes c of 5, 1, e of 1 and d of 3, 0; a bears c of 2, 1 and d of 0.
        for pairs in ((("c", 5),), (("c", 2),), (("e", 1),), (("d", 3),), (("d", 0), ("c", 2)), (("a", 1),)):
            self.tells(put_otherwise(wire, second={"given": pairs}, first={"took": pairs}), "beyond")
        self.tells(put_otherwise(wire, second={"given": (("d", 0),)}, first={"took": (("d", 0),)}))

    def test_beyond_by_the_wishes_as_they_are_now(self):
        wire = settled()
        plan = (("b", (1,)), ("a", (2,)))
        wishes = (wish("b"), wish("a", (2,)))
        self.tells(put_otherwise(wire, first={"wishes": wishes, "plan": plan, "refused": ()}), "beyond")
        pairs = (("b", 1), ("a", 2))
        self.tells(put_otherwise(wire, first={"wishes": wishes, "plan": plan, "refused": (), "given": pairs}, second={"took": pairs}))

    def test_again(self):
        wire = settled()
        for refused in ((("a", 1),), (("a", -1),), (("b", 1),), (("b", -1),), (("a", 3), ("b", 1)), (("a", 1), ("zinc", -1))):
            self.tells(put_otherwise(wire, first={"refused": refused}), "again")
        for refused in ((), (("a", 2),), (("a", 0), ("b", 0)), (("c", -1),)):
            self.tells(put_otherwise(wire, first={"refused": refused}))
        self.tells(put_otherwise(wire, second={"refused": (("d", -1),)}), "again")

    def test_again_at_an_end_that_asks_alone(self):
        wire = Wire(ONE, OTHER)
        wire.do(("open", "a"))
        self.tells(put_otherwise(wire, first={"refused": (("a", 3),)}), "again")
        self.tells(put_otherwise(wire, first={"refused": (("a", 1),)}))
        # What isn't asked since its needs don't stand isn't asked again.
        self.tells(put_otherwise(wire, first={"refused": (("b", -1), ("b", 1))}))
        self.tells(put_otherwise(wire, first={"refused": (("a", -1),), "plan": ()}))

    def test_not_at_a_closed_end(self):
        wire = Wire(ONE, OTHER)
        plan = (("a", (3,)), ("b", ()))
        self.tells(put_otherwise(wire, first={"refused": (("a", 3),), "plan": plan}))
        self.tells(put_otherwise(wire, first={"stand": "asking", "refused": (("a", 3),), "plan": plan}), "again")
        self.tells(put_otherwise(wire, second={"stand": "open", "refused": (("c", 5),), "plan": (("c", (5,)), ("e", ()), ("d", ()))}), "again")

    def test_several_in_their_order(self):
        wire = settled()
        self.tells(put_otherwise(wire, first={"given": (("a", 3),)}), "unlike", "beyond")
        self.tells(put_otherwise(wire, first={"given": (("a", 2),), "refused": (("a", 1),)}), "unlike", "again")
        self.tells(put_otherwise(wire, first={"given": (("a", 9),), "refused": (("a", -1),)}), "unlike", "beyond", "again")
        self.tells(put_otherwise(wire, first={"given": (("a", 9),)}, second={"took": (("a", 9),), "refused": (("d", 0),)}), "beyond", "again")

    def test_only_where_both_stand_open_with_the_same_numbers(self):
        wire = settled()
        for other in ({"turn": 2}, {"yours": 2}, {"stand": "asking"}, {"stand": "closed"}):
            self.tells(put_otherwise(wire, first={"given": (("a", 9),)}, second=other))
            self.tells(put_otherwise(wire, first={"given": (("a", 9),), **other}))

    def test_stands_are_taken_as_they_are_saved(self):
        wire = Wire(ONE, OTHER)
        wire.do(("open", "a"))
        wire.do(("open", "b"))
        wire = put_otherwise(wire, first={"stand": "open", "yours": 1}, second={"stand": "open", "yours": 1})
        self.tells(wire)
        self.tells(put_otherwise(wire, first={"given": ()}), "unlike")

    def test_the_wire_stays(self):
        wire = settled()
        before = (wire.saved(), wire.deeds())
        told = unsafe(wire)
        told.append("x")
        self.tells(wire)
        self.assertEqual((wire.saved(), wire.deeds()), before)


class LesserHeard(unittest.TestCase):
    ENDS = (NEW, CLOSED, FRESH, KNOWS, OPEN, test_hearing.Answers.WAITS)
    PAIRS = ((), (("size", 3), ("echo", 1)), (("size", 1),), (("echo", 1),), (("hue", 2),), (("size", 2), ("ink", 7)))

    def letters(self, numbers, mines=(4, 5, 6)):
        for word, mine, yours, who in itertools.product(LETTER_WORDS, mines, (0, 1, 2), ("a", "b", "c")):
            if word in ("bye", "here", "there"):
                yield letter(word, 0, (), who, mine, yours)
            else:
                yield from [letter(word, number, pairs, who, mine, yours) for number in numbers for pairs in self.PAIRS]

    def test_no_number_is_looked_at(self):
        for end in self.ENDS:
            for one in self.letters((1,)):
                told = lesser_heard(end, one, BOUNDS)
                if one[1] not in ("bye", "here", "there"):
                    for number in (2, 3, 4, 5, 70):
                        self.assertEqual(lesser_heard(end, one[:4] + (number, one[5]), BOUNDS), told)

    def test_bare_words_as_heard(self):
        for end in self.ENDS:
            for one in self.letters((1,)):
                if one[1] in ("bye", "here", "there"):
                    self.assertEqual(lesser_heard(end, one, BOUNDS, tries=2), heard(end, one, BOUNDS, tries=2))

    def test_an_ask_as_one_more_than_heard(self):
        for end in self.ENDS:
            for one in self.letters((1,), (4, 5)):
                if one[1] == "ask" and one[2] <= part(end, "yours"):
                    due = heard(end, one[:4] + (part(end, "heard") + 1, one[5]), BOUNDS, tries=5)
                    self.assertEqual(lesser_heard(end, one, BOUNDS, tries=5), due)

    def test_an_answer_as_its_own(self):
        for end in self.ENDS:
            for one in self.letters((1, 9), (4, 5)):
                if one[1] in ("yes", "no", "rather") and one[2] <= part(end, "yours"):
                    due = heard(end, one[:4] + (part(end, "number"), one[5]), BOUNDS, tries=5)
                    self.assertEqual(lesser_heard(end, one, BOUNDS, tries=5), due)

    def test_newer_letters_behind_the_beginning_anew(self):
        # It has heard nothing then, and its own number is 1.
        for end in self.ENDS:
            for one in self.letters((1, 4, 9), (6,)):
                if one[1] not in ("bye", "here", "there"):
                    self.assertEqual(lesser_heard(end, one, BOUNDS), heard(end, one[:4] + (1, one[5]), BOUNDS))

    def test_by_hand(self):
        pairs = (("hue", 2),)
        yes = ("a", "yes", 2, 5, 5, pairs)
        now = with_parts(OPEN, heard=5, took=pairs, last=yes)
        for number in (1, 4, 5, 9):
            self.assertEqual(lesser_heard(OPEN, letter("ask", number, pairs), BOUNDS), (now, [yes]))
        ask = (("size", 3), ("echo", 1))
        for number in (1, 2, 9):
            self.assertEqual(lesser_heard(KNOWS, letter("yes", number, ask), BOUNDS), (with_parts(KNOWS, given=ask), []))
        # Given there already: nothing, whatever the number.
        self.assertEqual(lesser_heard(OPEN, letter("yes", 3, ask), BOUNDS), (OPEN, []))

    def test_tries_left_out(self):
        ask = (("size", 3), ("echo", 1))
        end = with_parts(KNOWS, tries=0)
        self.assertEqual(part(lesser_heard(end, letter("yes", 7, ask), BOUNDS)[0], "tries"), 3)
        self.assertEqual(part(lesser_heard(end, letter("yes", 7, ask), BOUNDS, tries=9)[0], "tries"), 9)


class LesserWire:
    """A wire of lesser ends, by the plain events; it is asked as some_deed asks a wire."""

    def __init__(self, one, other, tries=3):
        self.bounds = {"a": one[1], "b": other[1]}
        self.both = {"a": new_end("a", one[0]), "b": new_end("b", other[0])}
        self.tries = tries
        self.flying = []
        self.done = []

    def ends(self):
        return (self.both["a"], self.both["b"])

    def air(self):
        return self.flying

    def __len__(self):
        return len(self.flying)

    def do(self, deed):
        self.done.append(deed)
        word, what = deed[:2]
        if word == "twice":
            self.flying.append(self.flying[what])
        elif word in ("come", "back", "lost"):
            to, one = self.flying.pop(what)
            who = to if word == "come" else other_name(to)
            if word != "lost":
                self.takes(who, lesser_heard(self.both[who], one, self.bounds[who], tries=self.tries))
        elif word == "open":
            self.takes(what, opened(self.both[what], tries=self.tries))
        elif word == "wish":
            self.takes(what, wished(self.both[what], deed[2], tries=self.tries))
        else:
            self.takes(what, {"close": closing, "tick": ticked}[word](self.both[what]))

    def takes(self, who, told):
        self.both[who], letters = told
        self.flying += [(other_name(who), one) for one in letters]

    def twin(self):
        mate = copy.copy(self)
        mate.both, mate.flying, mate.done = dict(self.both), list(self.flying), list(self.done)
        return mate

    def is_unlike(self):
        one, other = self.ends()
        if part(one, "stand") != "open" or part(other, "stand") != "open":
            return False
        if part(one, "yours") != part(other, "turn") or part(other, "yours") != part(one, "turn"):
            return False
        return part(one, "given") != part(other, "took") or part(other, "given") != part(one, "took")


def fewest(wire, most):
    """How many deeds more, of all that there are, make the ends unlike, or None."""
    level = [wire]
    for many in range(most + 1):
        if any([one.is_unlike() for one in level]):
            return many
        later = {}
        for one in level if many < most else []:
            for word, k in itertools.product(("come", "lost", "twice"), range(len(one))):
                mate = one.twin()
                mate.do((word, k))
                later.setdefault((mate.ends(), tuple(sorted(mate.air()))), mate)
        level = list(later.values())
    return None


WISHED = [(wish("x", (1,)),), (wish("x", (2,)),), (wish("x", (1, 2)),), (wish("x", (3, 1)), wish("y")), ()]


class Fall(unittest.TestCase):
    def begun(self, one, other, tries=3):
        wire = LesserWire(one, other, tries)
        for deed in (("open", "a"), ("open", "b")):
            wire.do(deed)
        while wire.air():
            wire.do(("come", 0))
        return wire

    def looks(self, one, other, wire, most, tries=3):
        """Compares with what is found by going through all deeds; tells how many fall."""
        told = fall(one, other, wire.done, tries=tries, most=most)
        many = fewest(wire, most)
        self.assertEqual(told if told is None else len(told), many)
        if told is not None:
            self.assertIs(type(told), list)
            mate = wire.twin()
            for deed in told:
                self.assertIn(deed[0], ("come", "lost", "twice"))
                mate.do(deed)
            self.assertTrue(mate.is_unlike())
        return many

    ONE = ((wish("x", (1, 2)),), ())
    OTHER = ((), (("x", (1, 2)),))

    def test_by_hand(self):
        wire = self.begun(self.ONE, self.OTHER)
        self.assertEqual([part(end, "stand") for end in wire.ends()], ["open", "open"])
        self.assertIsNone(fall(self.ONE, self.OTHER, wire.done))
        wire.do(("wish", "a", (wish("x", (2,)),)))
        wire.do(("wish", "a", (wish("x", (1,)),)))
        # Two asks are in the air; the elder one comes last.
        told = fall(self.ONE, self.OTHER, wire.done)
        self.assertEqual(told, [("come", 1), ("come", 0), ("come", 0)])
        for most in (0, 1, 2):
            self.assertIsNone(fall(self.ONE, self.OTHER, wire.done, most=most))
        for most in (3, 4, 5):
            self.assertEqual(len(fall(self.ONE, self.OTHER, wire.done, most=most)), 3)
        for many in range(4):
            self.assertEqual(fall(self.ONE, self.OTHER, wire.done + told[:many], most=3), told[many:])
        # On a wire of whole ends the same deeds are safe.
        whole = Wire(self.ONE, self.OTHER)
        for deed in wire.done + told:
            whole.do(deed)
        self.assertEqual(unsafe(whole), [])

    def test_of_none_where_it_holds_already(self):
        wire = self.begun(self.ONE, self.OTHER)
        wire.do(("wish", "a", (wish("x", (2,)),)))
        wire.do(("wish", "a", (wish("x", (1,)),)))
        for deed in (("come", 1), ("come", 0), ("come", 0)):
            wire.do(deed)
        for most in range(6):
            self.assertEqual(fall(self.ONE, self.OTHER, wire.done, most=most), [])

    def test_none(self):
        self.assertIsNone(fall(self.ONE, self.OTHER, []))
        self.assertIsNone(fall(self.ONE, self.OTHER, [("open", "a"), ("open", "b")], most=5))

    def test_beside_all_deeds(self):
        counts = {}
        for seed in range(600):
            dice = random.Random(seed)
            one, other = (dice.choice(WISHED), (("x", (2, 1)), ("y", (1,)))), (dice.choice(WISHED), (("x", (1, 2)),))
            tries = dice.randint(1, 4)
            wire = self.begun(one, other, tries)
            for turn in range(dice.randint(2, 9)):
                deed = some_deed(dice, wire, WISHED, (0, 0, 6, 0, 8, 1, 2, 0))
                if deed is not None and (len(wire) < 5 or deed[0] == "come"):
                    wire.do(deed)
            most = dice.choice((0, 1, 2, 3, 3, 3, 4))
            many = self.looks(one, other, wire, most, tries)
            counts[many] = counts.get(many, 0) + 1
        self.assertGreaterEqual(set(counts), {None, 0, 2, 3})

    # b's ask is refused x of 3 by the one rather in the air, and would be x of 1 by another one.
    RATHER_ONCE = [
        ("open", "a"), ("open", "b"), ("wish", "a", ()), ("wish", "b", (wish("x", (2, 3)), wish("y", (1,), True))), ("tick", "b"), ("come", 4), ("come", 1),
        ("come", 0), ("come", 2), ("come", 0), ("tick", "a"), ("come", 0), ("come", 2), ("come", 2), ("wish", "b", (wish("y", (1, 2)),)),
        ("wish", "a", (wish("x", (1,)),)), ("come", 3), ("come", 3), ("twice", 0), ("come", 0), ("come", 2), ("lost", 3),
        ("wish", "b", (wish("x", (3, 1)), wish("y"))), ("come", 1), ("come", 2),
    ]

    def rather_once(self):
        one, other = ((wish("x", (1, 2)),), (("x", (2, 1)), ("y", (1,)))), ((), (("x", (1, 2)), ("y", (2, 1))))
        wire = LesserWire(one, other, 1)
        for deed in self.RATHER_ONCE:
            wire.do(deed)
        return one, other, wire

    def test_doubled_where_it_must_be(self):
        one, other, wire = self.rather_once()
        self.assertEqual(len(wire), 4)
        self.assertEqual(self.looks(one, other, wire, 4, 1), None)
        told = fall(one, other, wire.done, tries=1, most=5)
        self.assertEqual([deed[0] for deed in told], ["twice", "come", "come", "come", "come"])
        for deed in told:
            wire.do(deed)
        self.assertTrue(wire.is_unlike())

    def test_where_no_letter_can_be_doubled_any_more(self):
        one, other, wire = self.rather_once()
        # Letters to a that bring nothing; one of them must be lost first.
        while len(wire) < 100:
            wire.do(("twice", 0))
        self.assertIsNone(fall(one, other, wire.done, tries=1, most=5))
        told = fall(one, other, wire.done, tries=1, most=6)
        self.assertEqual([deed[0] for deed in told], ["lost", "twice", "come", "come", "come", "come"])
        wire.do(("lost", 0))
        self.assertEqual(len(fall(one, other, wire.done, tries=1, most=5)), 5)

    def test_many_letters(self):
        wire = self.begun(self.ONE, self.OTHER)
        wire.do(("tick", "a"))
        while len(wire) < 100:
            wire.do(("twice", 0))
        self.assertIsNone(fall(self.ONE, self.OTHER, wire.done, most=3))
        wire.do(("wish", "a", (wish("x", (2,)),)))
        wire.do(("wish", "a", (wish("x", (1,)),)))
        self.assertEqual(len(fall(self.ONE, self.OTHER, wire.done, most=4)), 3)

    def test_left_out_and_what_stays(self):
        wire = self.begun(self.ONE, self.OTHER)
        wire.do(("wish", "a", (wish("x", (2,)),)))
        wire.do(("wish", "a", (wish("x", (1,)),)))
        deeds = list(wire.done)
        told = fall(self.ONE, self.OTHER, deeds)
        kept = list(told)
        told.clear()
        self.assertEqual(fall(self.ONE, self.OTHER, deeds, tries=3, most=4), kept)
        self.assertEqual(deeds, wire.done)


if __name__ == "__main__":
    unittest.main()
