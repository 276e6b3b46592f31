"""Point 27: a desk by its lines."""

import random
import unittest

from crossedwishes.desk import Desk
from crossedwishes.errors import NoBack, NoLetter, NoLine, NotClosed, NotOpen, NoText, TooMany
from crossedwishes.texts import show_letter
from crossedwishes.wire import Wire
from tests.things import BOOKS, STRANGE, part, some_deed, wish, with_parts

ONE, OTHER = BOOKS[0], BOOKS[1]
NONE = ((), ())
ASKS = ["stands", "sets", "air", "end a", "end b", "safe"]


def said(*lines, one=ONE, other=OTHER, **tries):
    desk = Desk(one, other, **tries)
    for line in lines:
        desk.say(line)
    return desk


def all_of(desk):
    return [desk.say(line) for line in ASKS]


class Lines(unittest.TestCase):
    def answers(self, desk, line, due):
        told = desk.say(line)
        self.assertEqual(told, due, line)
        self.assertIs(type(told), str)

    def test_a_new_desk(self):
        desk = Desk(ONE, OTHER)
        for line, due in (("stands", "closed"), ("sets", "-"), ("air", "-"), ("end a", "a closed 0 0 0"), ("end b", "b closed 0 0 0"),
                          ("safe", "yes"), ("settle", "0"), ("tick a", "-"), ("tick b", "-")):
            self.answers(desk, line, due)

    def test_a_talk(self):
        desk = Desk(ONE, OTHER)
        for line, due in (
            ("open a", "a asking"), ("stands", "else"), ("open b", "b asking"), ("air", "to b a ask 1 0 1 a=3;to a b ask 1 0 1 c=5 e=1 d=3"),
            ("twice 1", "-"), ("air", "to b a ask 1 0 1 a=3;to a b ask 1 0 1 c=5 e=1 d=3;to a b ask 1 0 1 c=5 e=1 d=3"), ("lost 1", "-"),
            ("air", "to b a ask 1 0 1 a=3;to a b ask 1 0 1 c=5 e=1 d=3"), ("sets", "-"), ("settle", "12"), ("stands", "open"),
            ("sets", "a=1,b=1 c=1,d=0"), ("air", "-"), ("end a", "a open 1 1 2"), ("end b", "b open 1 1 3"), ("safe", "yes"),
            ("tick a", "-"), ("air", "to b a here 1 1 0"), ("come 0", "-"), ("air", "to a b there 1 1 0"), ("echo 0", "-"), ("air", "-"),
            ("close b", "b closed"), ("stands", "else"), ("sets", "-"), ("come 0", "a closed"), ("stands", "closed"), ("end a", "a closed 1 1 0"),
            ("back", "ok"), ("stands", "else"), ("back", "ok"), ("stands", "open"), ("sets", "a=1,b=1 c=1,d=0"),
        ):
            self.answers(desk, line, due)

    def test_sets_of_none(self):
        desk = said("open a", "open b", "settle", one=NONE, other=NONE)
        self.answers(desk, "sets", "- -")
        desk = said("open a", "open b", "settle", one=((wish("a", (7,)),), ()), other=((), (("a", (7,)),)))
        self.answers(desk, "sets", "a=7 -")
        desk = said("open a", "open b", "settle", other=((wish("a", (7,)),), (("a", (1,)), ("b", (1,)))), one=((), (("a", (7,)),)))
        self.answers(desk, "sets", "- a=7")

    def test_echo_is_the_deed_back(self):
        desk = said("open a", "twice 0", "twice 0")
        for due in ("-", "-", "a closed"):
            self.answers(desk, "echo 0", due)

    def test_tries(self):
        for tries in range(1, 10):
            desk = said("open a", tries=tries)
            for turn in range(tries):
                self.answers(desk, "tick a", "-")
            self.answers(desk, "tick a", "a closed")
        desk = said("open b")
        self.assertEqual([desk.say("tick b") for turn in range(4)], ["-", "-", "-", "b closed"])

    def test_led_desks_beside_wires(self):
        for seed in range(60):
            dice = random.Random(seed)
            one, other, tries = dice.choice(BOOKS), dice.choice(BOOKS), dice.randint(2, 9)
            desk, wire = Desk(one, other, tries=tries), Wire(one, other, tries=tries)
            for turn in range(40):
                self.looks(desk, wire)
                deed = some_deed(dice, wire)
                if deed is not None:
                    word, what = deed
                    brought = wire.do(deed)
                    self.answers(desk, f"{'echo' if word == 'back' else word} {what}", ", ".join([f"{who} {stand}" for who, stand in brought]) or "-")
                elif dice.random() < 0.3 and wire.deeds():
                    wire.back()
                    self.answers(desk, "back", "ok")
            self.answers(desk, "settle", str(wire.settle()))
            self.looks(desk, wire)

    def looks(self, desk, wire):
        stands = wire.stands()
        self.answers(desk, "stands", stands[0])
        sets = [",".join([f"{kind}={worth}" for kind, worth in pairs]) or "-" for pairs in stands[1:]]
        self.answers(desk, "sets", " ".join(sets) if sets else "-")
        self.answers(desk, "air", ";".join([f"to {to} {show_letter(letter)}" for to, letter in wire.air()]) or "-")
        for at, who in enumerate("ab"):
            end = wire.ends()[at]
            self.answers(desk, f"end {who}", " ".join([str(part(end, name)) for name in ("name", "stand", "turn", "yours", "number")]))
        self.answers(desk, "safe", "yes")


class Unsafe(unittest.TestCase):
    def test_the_words(self):
        # No deeds come to it, so the wire that the desk keeps is put otherwise.
        desk = said("open a", "open b", "settle", one=((wish("x", (1, 2)),), ()), other=((), (("x", (1,)),)))
        one, other = desk.wire.ends()
        for parts, due in (({}, "yes"), ({"given": ()}, "unlike"), ({"given": (("x", 2),)}, "unlike beyond"), ({"refused": (("x", 1),)}, "again"),
                           ({"given": (("y", 1),), "refused": (("x", -1),)}, "unlike beyond again")):
            desk.wire.state = ((with_parts(one, **parts), other), ())
            self.assertEqual(desk.say("safe"), due)


class Refused(unittest.TestCase):
    def refuses(self, desk, told, error, **fields):
        before = all_of(desk)
        deeds = desk.wire.deeds()
        with self.assertRaises(error, msg=repr(told)[:80]) as caught:
            desk.say(told)
        self.assertIs(type(caught.exception), error, repr(told)[:80])
        self.assertEqual(vars(caught.exception), fields)
        self.assertEqual(all_of(desk), before)
        self.assertEqual(desk.wire.deeds(), deeds)

    def test_no_line(self):
        things = [thing for thing in STRANGE if not isinstance(thing, str)] + [b"open a", ["open a"], ("open", "a")]
        lines = [
            "", " ", "  ", "\n", "x", "Open a", "OPEN a", "opens a", "open", "open a b", "open a ", " open a", "open  a", "open a\n b", "close", "tick",
            "come", "come 0 0", "come  0", "come 0 ", " come 0", "lost", "twice", "echo", "end", "end a b", "back 0", "back ", " back", "back\n",
            "settle 1", "settle ", "stands a", "stands ", "sets a", "sets ", "air a", "air ", "safe x", "safe ", "wish a", "wish a ", "wish a x 1;",
            "wish", "do open a", "a open", "0", "-", "~" * 20000, "\n" * 20000, "open\na", "back back", "None", "str", "say",
        ]
        for desk in (Desk(ONE, OTHER), said("open a", "open b"), said("open a", "open b", "settle")):
            for thing in things + lines:
                self.refuses(desk, thing, NoLine)

    def test_no_text(self):
        desk = said("open a", "open b")
        for word in ("open", "close", "tick", "end"):
            for who in ("", "c", "A", "ab", "aa", "0", "a\n", "\na", "a,", "a;b", "None"):
                self.refuses(desk, f"{word} {who}", NoText, line=None)
        for word in ("come", "lost", "twice", "echo"):
            for number in ("", "a", "-1", "+1", "00", "01", "1.0", "0\n", "12345678901", "1,1", "0x1", "True", "None", "-"):
                self.refuses(desk, f"{word} {number}", NoText, line=None)

    def test_as_the_stages_refuse(self):
        desk = said("open a")
        self.refuses(desk, "open a", NotClosed)
        self.refuses(desk, "close b", NotOpen)
        for word in ("come", "lost", "twice", "echo"):
            for number in (1, 2, 9999999999):
                self.refuses(desk, f"{word} {number}", NoLetter, k=number)
        desk = Desk(ONE, OTHER)
        self.refuses(desk, "back", NoBack)
        self.refuses(desk, "close a", NotOpen)

    def test_too_many(self):
        desk = said("open a", *["twice 0"] * 99)
        self.refuses(desk, "twice 99", TooMany)
        self.refuses(desk, "twice 100", NoLetter, k=100)
        self.refuses(desk, "twice 0100", NoText, line=None)
        self.refuses(desk, "twice", NoLine)
        desk.say("lost 0")
        self.assertEqual(desk.say("twice 0"), "-")

    def test_the_order(self):
        desk = said("open a")
        # A word too many goes ahead of what is written wrong, that ahead of what can't be done.
        self.refuses(desk, "open c a", NoLine)
        self.refuses(desk, "open c", NoText, line=None)
        self.refuses(desk, "open a", NotClosed)
        self.refuses(desk, "come 01 1", NoLine)
        self.refuses(desk, "come 01", NoText, line=None)
        self.refuses(desk, "come 1", NoLetter, k=1)

    def test_blanks(self):
        desk = Desk(ONE, OTHER)
        # Words without signs are words.
        self.refuses(desk, "open ", NoText, line=None)
        self.refuses(desk, "come ", NoText, line=None)
        self.refuses(desk, "end ", NoText, line=None)
        self.refuses(desk, "open  ", NoLine)
        self.refuses(desk, " open", NoLine)
        self.refuses(desk, "stands ", NoLine)
        self.refuses(desk, " stands", NoLine)

    def test_back_to_the_first_deed(self):
        desk = said("open a", "open b", "settle")
        while desk.wire.deeds():
            self.assertEqual(desk.say("back"), "ok")
        self.refuses(desk, "back", NoBack)
        self.assertEqual(all_of(desk), all_of(Desk(ONE, OTHER)))


class Beside(unittest.TestCase):
    def test_two_desks(self):
        one, other = Desk(ONE, OTHER), Desk(ONE, OTHER)
        before = all_of(other)
        one.say("open a")
        one.say("open b")
        one.say("settle")
        self.assertEqual(all_of(other), before)
        other.say("open b")
        self.assertEqual(one.say("stands"), "open")

    def test_asking_changes_nothing_and_is_answered_the_same_again(self):
        desk = said("open a", "open b", "come 0")
        first = all_of(desk)
        for turn in range(3):
            self.assertEqual(all_of(desk), first)
        self.assertEqual(len(desk.wire.deeds()), 3)

    def test_methods_stand_in_the_class(self):
        self.assertIn("say", vars(Desk))


if __name__ == "__main__":
    unittest.main()
