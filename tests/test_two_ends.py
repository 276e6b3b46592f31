"""Point 3: what two ends come to, whatever befalls the letters between them."""

import random
import unittest

from crossedwishes.ends import closing, new_end, opened, ticked, wished
from crossedwishes.hearing import heard, stands_open_with
from crossedwishes.letters import is_letter
from crossedwishes.machine import by_rows
from crossedwishes.rows import told_rows
from tests.things import BOOKS, SMALL_BOUNDS, SMALL_WISHES, part, wish, worths_of

ROWS = told_rows()


class Talk:
    """Two ends and the letters between them; each event is done by rows, too."""

    def __init__(self, test, one, other, tries):
        self.test = test
        self.tries = tries
        self.bounds = {"a": one[1], "b": other[1]}
        self.ends = {"a": new_end("a", one[0]), "b": new_end("b", other[0])}
        self.allowed = {"a": set(), "b": set()}
        for who, book in (("a", one), ("b", other)):
            self.allow(who, book[0])
        self.air = []
        self.refused = {}
        self.asks = {}

    def allow(self, who, wishes):
        self.allowed[who] |= {(kind, worth) for kind, worths, must, needs in wishes for worth in worths}

    def happens(self, who, event):
        end = self.ends[who]
        if event[0] == "open":
            told = opened(end, tries=self.tries)
        elif event[0] == "close":
            told = closing(end)
        elif event[0] == "tick":
            told = ticked(end)
        elif event[0] == "wish":
            self.allow(who, event[1])
            told = wished(end, event[1], tries=self.tries)
        else:
            told = heard(end, event, self.bounds[who], tries=self.tries)
        self.test.assertEqual(by_rows(ROWS, end, event, self.bounds[who], tries=self.tries), told)
        self.ends[who], letters = told
        self.look(who, letters)
        self.air.extend([("b" if who == "a" else "a", letter) for letter in letters])

    def look(self, who, letters):
        end = self.ends[who]
        # An end that isn't closed is open where given and took are there.
        if part(end, "stand") != "closed":
            agreed = part(end, "given") is not None and part(end, "took") is not None
            self.test.assertEqual(part(end, "stand"), "open" if agreed else "asking")
        opening = (who, part(end, "turn"), part(end, "yours"))
        refused = self.refused.setdefault(opening, set())
        refused |= set(part(end, "refused"))
        for letter in letters:
            self.test.assertIs(is_letter(letter), True, letter)
            if letter[1] == "ask":
                # What is refused isn't asked again in an opening.
                again = [pair for pair in letter[5] if {pair, (pair[0], -1)} & self.refused[(who, *letter[2:4])]]
                self.test.assertEqual(again, [])
                self.asks.setdefault((who, *letter[2:4]), set()).add(letter[4])
        self.safe()

    def safe(self):
        one, other = self.ends["a"], self.ends["b"]
        if not stands_open_with(one, other):
            return
        for end, mate in ((one, other), (other, one)):
            self.test.assertEqual(part(end, "given"), part(mate, "took"))
            self.test.assertLessEqual(set(part(end, "given")), self.allowed[part(end, "name")])
            known = dict(self.bounds[part(mate, "name")])
            self.test.assertTrue(all([worth in known[kind] for kind, worth in part(end, "given")]))

    def closed(self, who):
        return part(self.ends[who], "stand") == "closed"

    def come(self, at, back=False):
        to, letter = self.air.pop(at)
        self.happens(letter[0] if back else to, letter)

    def is_settled(self):
        if self.closed("a") and self.closed("b"):
            return True
        return stands_open_with(self.ends["a"], self.ends["b"]) and not self.air

    def settle(self):
        """All letters come, in their order; where there are none both ends are ticked."""
        came = 0
        while not self.is_settled():
            if self.air:
                self.come(0)
                came += 1
            else:
                for who in "ab":
                    if not self.closed(who):
                        self.happens(who, ("tick",))
        return came


class TwoEnds(unittest.TestCase):
    def step(self, talk, dice, wishes):
        who = dice.choice("ab")
        deed = dice.choices(("open", "tick", "wish", "close", "come", "lost", "twice", "back"), (6, 4, 1, 1, 24, 2, 4, 1))[0]
        if deed == "open" and talk.closed(who) or deed == "close" and not talk.closed(who) or deed == "tick":
            talk.happens(who, (deed,))
        elif deed == "wish" and wishes:
            talk.happens(who, ("wish", dice.choice(wishes)))
        elif deed in ("come", "lost", "twice", "back") and talk.air:
            at = dice.randrange(len(talk.air))
            if deed in ("come", "back"):
                talk.come(at, deed == "back")
            elif deed == "lost":
                talk.air.pop(at)
            elif len(talk.air) < 30:
                talk.air.append(talk.air[at])

    def test_letters_in_any_order_lost_twice_and_back(self):
        opens = 0
        for seed in range(300):
            dice = random.Random(seed)
            talk = Talk(self, dice.choice(BOOKS), dice.choice(BOOKS), dice.randint(1, 4))
            for turn in range(120):
                self.step(talk, dice, SMALL_WISHES if seed % 2 else [])
                opens += stands_open_with(talk.ends["a"], talk.ends["b"])
            if seed % 2 == 0:
                for (who, *numbers), asked in talk.asks.items():
                    self.assertLessEqual(len(asked), worths_of(part(talk.ends[who], "wishes")) + 1)
        self.assertGreater(opens, 1000)

    def test_where_all_letters_come_both_are_open_or_both_closed(self):
        ends = []
        for one in BOOKS:
            for other in BOOKS:
                for tries in (2, 3, 9):
                    for first in ("a", "b", "ab", "ba"):
                        talk = Talk(self, one, other, tries)
                        for who in first:
                            talk.happens(who, ("open",))
                        came = talk.settle()
                        self.assertLessEqual(came, 100 * (1 + worths_of(one[0]) + worths_of(other[0])))
                        ends.append(part(talk.ends["a"], "stand"))
        self.assertEqual(set(ends), {"open", "closed"})

    def test_both_come_to_rest_from_any_middle(self):
        opens = 0
        for seed in range(300):
            dice = random.Random(seed)
            talk = Talk(self, dice.choice(BOOKS), dice.choice(BOOKS), dice.randint(2, 4))
            talk.happens("a", ("open",))
            talk.happens("b", ("open",))
            for turn in range(dice.randrange(60)):
                self.step(talk, dice, SMALL_WISHES if seed % 2 else [])
            talk.settle()
            opens += not talk.closed("a")
        self.assertTrue(0 < opens < 300, opens)

    def test_all_small_wishes_and_bounds(self):
        for wishes in SMALL_WISHES:
            for bounds in SMALL_BOUNDS:
                talk = Talk(self, (wishes, bounds), BOOKS[0], 2)
                talk.happens("a", ("open",))
                talk.happens("b", ("open",))
                talk.settle()

    def test_a_talk_letter_by_letter(self):
        talk = Talk(self, BOOKS[0], BOOKS[1], 3)
        talk.happens("a", ("open",))
        talk.happens("b", ("open",))
        talk.settle()
        one, other = talk.ends["a"], talk.ends["b"]
        self.assertIs(stands_open_with(one, other), True)
        self.assertEqual((part(one, "given"), part(one, "took")), ((("a", 1), ("b", 1)), (("c", 1), ("d", 0))))
        self.assertEqual((part(other, "given"), part(other, "took")), ((("c", 1), ("d", 0)), (("a", 1), ("b", 1))))

    def test_an_end_that_fails_closes_both(self):
        talk = Talk(self, BOOKS[1], BOOKS[2], 3)
        talk.happens("a", ("open",))
        talk.happens("b", ("open",))
        talk.settle()
        self.assertEqual([(part(end, "stand"), part(end, "yours")) for end in talk.ends.values()], [("closed", 1), ("closed", 1)])
        self.assertIn("failed", [part(end, "why") for end in talk.ends.values()])

    def test_an_end_that_is_open_alone_is_closed_by_its_tries_and_one_more(self):
        for tries in range(1, 10):
            talk = Talk(self, BOOKS[0], BOOKS[1], tries)
            talk.happens("a", ("open",))
            talk.happens("b", ("open",))
            talk.settle()
            talk.happens("b", ("close",))
            for turn in range(tries + 1):
                self.assertEqual(part(talk.ends["a"], "stand"), "open")
                talk.happens("a", ("tick",))
            self.assertEqual((part(talk.ends["a"], "stand"), part(talk.ends["a"], "why")), ("closed", "tries"))

    def test_nothing_of_an_elder_opening_is_taken_up(self):
        talk = Talk(self, BOOKS[0], BOOKS[1], 3)
        talk.happens("a", ("open",))
        talk.happens("b", ("open",))
        old = []
        while not talk.is_settled():
            old.extend(talk.air)
            talk.come(0)
        for who in ("b", "a"):
            talk.happens(who, ("close",))
            talk.happens(who, ("open",))
        talk.air.clear()
        talk.happens("a", ("tick",))
        talk.settle()
        before = dict(talk.ends)
        self.assertEqual([part(end, "turn") for end in before.values()], [2, 2])
        self.assertGreater(len(old), 6)
        for to, letter in old:
            talk.happens(to, letter)
            self.assertEqual((talk.ends, talk.air), (before, []))


class AllWeavings(unittest.TestCase):
    """Small talks gone through whole: letters in every order, some lost, doubled, back."""

    def gone_through(self, one, other, tries, lost, twice, back):
        talk = Talk(self, one, other, tries)
        talk.happens("a", ("open",))
        talk.happens("b", ("open",))
        seen = set()
        todo = [(talk.ends, talk.air, lost, twice, back)]
        while todo and len(seen) < 4000:
            ends, air, *left = todo.pop()
            mark = (ends["a"], ends["b"], tuple(sorted(air)), *left)
            if mark in seen:
                continue
            seen.add(mark)
            todo.extend(self.followers(talk, ends, air, left))
        return len(seen)

    def followers(self, talk, ends, air, left):
        lost, twice, back = left
        for at in range(len(air)):
            rest = air[:at] + air[at + 1:]
            yield self.led(talk, ends, air, lambda: talk.come(at)) + (lost, twice, back)
            if back:
                yield self.led(talk, ends, air, lambda: talk.come(at, True)) + (lost, twice, back - 1)
            if lost:
                yield (ends, rest, lost - 1, twice, back)
            if twice:
                yield (ends, air + [air[at]], lost, twice - 1, back)
        if not air:
            for who in "ab":
                if part(ends[who], "stand") != "closed":
                    yield self.led(talk, ends, air, lambda: talk.happens(who, ("tick",))) + (lost, twice, back)

    def led(self, talk, ends, air, deed):
        talk.ends, talk.air, talk.refused = dict(ends), list(air), {}
        for who, end in ends.items():
            talk.refused[(who, part(end, "turn"), part(end, "yours"))] = set(part(end, "refused"))
        deed()
        return (talk.ends, talk.air)

    def test_small_ones(self):
        one = ((wish("a", (2, 1), True),), (("b", (1,)),))
        other = ((wish("b", (0, 1)), wish("c")), (("a", (1,)),))
        self.assertGreater(self.gone_through(one, other, 1, 0, 0, 0), 50)
        self.assertGreater(self.gone_through(one, other, 1, 1, 0, 0), 200)
        self.assertGreater(self.gone_through(one, other, 1, 0, 1, 0), 200)
        self.assertGreater(self.gone_through(one, other, 1, 0, 0, 2), 200)
        self.assertGreater(self.gone_through(one, ((wish("b", (0,), True),), (("a", (1,)),)), 1, 1, 1, 0), 200)


if __name__ == "__main__":
    unittest.main()
