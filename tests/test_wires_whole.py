"""Point 3, over wires: what two ends come to in talks of many deeds."""

import itertools
import random
import unittest

from crossedwishes.courses import course
from crossedwishes.hearing import stands_open_with
from crossedwishes.letters import is_letter
from crossedwishes.wire import Wire
from tests.things import BOOKS, SMALL, SMALL_WISHES, lead, part, some_deed, wish, worths_of


class Led(unittest.TestCase):
    """Wires led by dice, looked at behind each deed."""

    def looks(self, wire, one, other, refused, asks):
        ends = wire.ends()
        self.assertEqual(wire.stands()[0] == "open", stands_open_with(*ends))
        if wire.stands()[0] == "open":
            self.agrees(ends[0], ends[1], other[1])
            self.agrees(ends[1], ends[0], one[1])
        for end in ends:
            opening = tuple([part(end, name) for name in ("name", "turn", "yours")])
            refused.setdefault(opening, set()).update(part(end, "refused"))
        for to, letter in wire.air():
            self.assertIs(is_letter(letter), True)
            self.assertNotEqual(to, letter[0])
            if letter[1] == "ask":
                asks.setdefault((letter[0], *letter[2:4]), {})[letter[4]] = letter[5]

    def agrees(self, end, mate, bounds):
        given = part(end, "given")
        self.assertEqual(given, part(mate, "took"))
        wished = {kind: worths for kind, worths, must, needs in part(end, "wishes")}
        for kind, worth in given:
            self.assertIn(worth, wished[kind])
            self.assertIn(worth, dict(bounds)[kind])

    def leads(self, seed, wishes):
        dice = random.Random(seed)
        one, other = dice.choice(BOOKS), dice.choice(BOOKS)
        wire = Wire(one, other, tries=dice.randint(1, 4))
        refused, asks, opens = {}, {}, 0
        for turn in range(120):
            deed = some_deed(dice, wire, wishes)
            if deed is None:
                continue
            ahead = wire.air()
            wire.do(deed)
            self.looks(wire, one, other, refused, asks)
            # A doubled letter isn't written anew.
            if deed[0] != "twice":
                self.nothing_refused_is_asked(wire, ahead, refused)
            opens += wire.stands()[0] == "open"
        return wire, asks, opens

    def nothing_refused_is_asked(self, wire, ahead, refused):
        """Of the letters written at the last deed."""
        written = wire.air()[:]
        for flying in ahead:
            if flying in written:
                written.remove(flying)
        for to, letter in written:
            if letter[1] == "ask":
                said = refused.get((letter[0], *letter[2:4]), set())
                self.assertEqual([pair for pair in letter[5] if pair in said or (pair[0], -1) in said], [])

    def test_what_both_agree_on(self):
        opens = 0
        for seed in range(300):
            opens += self.leads(seed, SMALL_WISHES)[2]
        self.assertGreater(opens, 1000)

    def test_no_more_asks_than_worths_and_one(self):
        for seed in range(200):
            wire, asks, opens = self.leads(seed, ())
            for (who, *numbers), asked in asks.items():
                wishes = part(wire.ends()["ab".index(who)], "wishes")
                self.assertLessEqual(len(asked), worths_of(wishes) + 1)

    def test_both_open_or_both_closed_where_all_letters_come(self):
        ends = []
        for seed in range(200):
            dice = random.Random(seed)
            wire = Wire(dice.choice(BOOKS), dice.choice(BOOKS), tries=dice.randint(2, 9))
            lead(dice, wire, 40, SMALL_WISHES if seed % 2 else ())
            wire.settle()
            ends.append(wire.stands()[0])
        self.assertEqual(set(ends), {"open", "closed"})


class Courses(unittest.TestCase):
    def test_a_settled_wire_comes_to_what_the_courses_of_both_ways_come_to(self):
        words = []
        for one, other in itertools.product(SMALL + BOOKS, SMALL + BOOKS):
            here, there = course(one[0], other[1]), course(other[0], one[1])
            due = ("open", here[1], there[1]) if here[0] == there[0] == "agreed" else ("closed",)
            for first in ("ab", "ba"):
                wire = Wire(one, other, tries=2)
                for who in first:
                    wire.do(("open", who))
                wire.settle()
                self.assertEqual(wire.stands(), due)
                words.append(due[0])
        self.assertEqual(set(words), {"open", "closed"})

    def test_from_any_order_of_coming(self):
        for seed in range(300):
            dice = random.Random(seed)
            one, other = dice.choice(SMALL), dice.choice(BOOKS)
            here, there = course(one[0], other[1]), course(other[0], one[1])
            due = ("open", here[1], there[1]) if here[0] == there[0] == "agreed" else ("closed",)
            wire = Wire(one, other)
            wire.do(("open", "a"))
            wire.do(("open", "b"))
            while wire.air():
                wire.do(("come", dice.randrange(len(wire))))
            self.assertEqual(wire.stands(), due)


class LeftAlone(unittest.TestCase):
    def settled(self, tries):
        wire = Wire(BOOKS[0], BOOKS[1], tries=tries)
        wire.do(("open", "a"))
        wire.do(("open", "b"))
        while wire.air():
            wire.do(("come", 0))
        self.assertEqual(wire.stands()[0], "open")
        return wire

    def test_closed_by_its_tries_of_ticks_and_one_more(self):
        for tries in range(1, 10):
            for who, other in ("ab", "ba"):
                wire = self.settled(tries)
                wire.do(("close", other))
                while wire.air():
                    wire.do(("lost", 0))
                for turn in range(tries):
                    self.assertEqual(wire.do(("tick", who)), [])
                self.assertEqual(wire.do(("tick", who)), [(who, "closed")])
                self.assertEqual(part(wire.ends()["ab".index(who)], "why"), "tries")

    def test_at_latest_from_any_middle(self):
        alone = 0
        for seed in range(200):
            dice = random.Random(seed)
            tries = dice.randint(1, 5)
            wire = Wire(BOOKS[0], BOOKS[1], tries=tries)
            lead(dice, wire, 50)
            for at, who in enumerate("ab"):
                stands = part(wire.ends()[at], "stand")
                if stands == "open" and wire.stands() == ("else",):
                    alone += 1
                    for turn in range(tries + 1):
                        wire.do(("tick", who))
                    self.assertEqual(part(wire.ends()[at], "stand"), "closed")
        self.assertGreater(alone, 10)


class ElderOpenings(unittest.TestCase):
    def test_nothing_is_taken_up(self):
        wire = Wire(BOOKS[0], BOOKS[1])
        wire.do(("open", "a"))
        wire.do(("open", "b"))
        # One more of each letter stays in the air.
        elder = []
        while wire.stands()[0] != "open":
            fresh = [k for k, flying in enumerate(wire.air()) if flying not in elder]
            elder.append(wire.air()[fresh[0]])
            wire.do(("twice", fresh[0]))
            wire.do(("come", fresh[0]))
        for who in "ba":
            wire.do(("close", who))
            wire.do(("open", who))
        while wire.stands()[0] != "open":
            fresh = [k for k, (to, letter) in enumerate(wire.air()) if (to, letter) not in elder and letter[1] != "bye"]
            if fresh:
                wire.do(("come", fresh[0]))
            else:
                wire.do(("tick", "a"))
        ends = wire.ends()
        self.assertEqual([part(end, "turn") for end in ends], [2, 2])
        came = 0
        for flying in elder:
            while flying in wire.air():
                many = len(wire)
                wire.do(("come", wire.air().index(flying)))
                self.assertEqual((wire.ends(), len(wire)), (ends, many - 1))
                came += 1
        self.assertGreater(came, 6)

    def test_echoes_are_told_apart(self):
        wire = Wire(BOOKS[0], BOOKS[1])
        wire.do(("open", "a"))
        wire.do(("open", "b"))
        wire.settle()
        wire.do(("wish", "a", (wish("a", (1,)),)))
        before = wire.ends()
        self.assertEqual(wire.do(("back", 0)), [])
        self.assertEqual(wire.ends()[1], before[1])
        self.assertEqual([part(wire.ends()[0], "echoes"), part(wire.ends()[0], "heard"), len(wire)], [1, part(before[0], "heard"), 0])


if __name__ == "__main__":
    unittest.main()
