import copy
import unittest

from crossedwishes.answers import answer
from crossedwishes.rings import lesser_course, lets_ring
from tests.things import SMALL, STRANGE, kin, wish


def walked(wishes, bounds):
    """A lesser end's course, gone through by hand: every ask kept, every stand compared with all ahead of it."""
    stand = {kind: worths[0] for kind, worths, must, needs in wishes}
    stands, asks = [], []
    while stand not in stands:
        stands.append(dict(stand))
        ask = []
        for kind, worths, must, needs in wishes:
            if stand[kind] is not None and (needs is None or needs in ask):
                ask.append((kind, stand[kind]))
        asks.append(tuple(ask))
        word, pairs = answer(bounds, tuple(ask))
        if word == "yes":
            return ("agreed", tuple(ask))
        for kind, told in pairs:
            worths, must = {one[0]: one[1:3] for one in wishes}[kind]
            if word == "no" and must:
                return ("failed", kind)
            after = worths[worths.index(stand[kind]) + 1:] + worths
            stand[kind] = None if word == "no" else told if told in worths else after[0]
    first = stands.index(stand)
    return ("ring", asks[:first], asks[first:])


class Rings(unittest.TestCase):
    def test_a_ring_without_a_lead(self):
        wishes = (wish("a", (1, 2, 3)),)
        self.assertEqual(lesser_course(wishes, (("a", (9,)),)), ("ring", [], [(("a", 1),), (("a", 2),), (("a", 3),)]))
        self.assertEqual(lesser_course((wish("a", (4,)),), (("a", (9,)),)), ("ring", [], [(("a", 4),)]))
        self.assertEqual(lesser_course((wish("a", (4,), True),), (("a", (9,)),)), ("ring", [], [(("a", 4),)]))

    def test_a_lead_by_no(self):
        told = lesser_course((wish("a", (1, 2)), wish("b", (5,))), (("a", (9,)),))
        self.assertEqual(told, ("ring", [(("a", 1), ("b", 5))], [(("a", 1),), (("a", 2),)]))

    def test_a_lead_by_rather(self):
        told = lesser_course((wish("a", (1, 2)), wish("c", (5, 6))), (("a", (9,)), ("c", (6,))))
        self.assertEqual(told, ("ring", [(("a", 1), ("c", 5))], [(("a", 2), ("c", 6)), (("a", 1), ("c", 6))]))

    def test_both_worths_go_on_together(self):
        told = lesser_course((wish("a", (1, 2)), wish("b", (1, 2, 3))), (("a", (9,)), ("b", (8,))))
        self.assertEqual(told, ("ring", [], [(("a", 1 + at % 2), ("b", 1 + at % 3)) for at in range(6)]))

    def test_the_told_worth_where_the_wish_has_it(self):
        self.assertEqual(lesser_course((wish("a", (1, 2, 3, 4)),), (("a", (3, 2)),)), ("agreed", (("a", 3),)))

    def test_else_the_one_behind_the_asked(self):
        self.assertEqual(lesser_course((wish("a", (1, 2, 3, 4)),), (("a", (9, 4, 3)),)), ("agreed", (("a", 3),)))

    def test_the_order_is_the_wishes(self):
        told = lesser_course((wish("a", (5, 1, 4)),), (("a", (0,)),))
        self.assertEqual(told, ("ring", [], [(("a", 5),), (("a", 1),), (("a", 4),)]))

    def test_agreed_at_once_and_of_none(self):
        self.assertEqual(lesser_course((wish("a", (1, 2)),), (("a", (2, 1)),)), ("agreed", (("a", 1),)))
        self.assertEqual(lesser_course((), ()), ("agreed", ()))

    def test_kinds_left_out_behind_no(self):
        self.assertEqual(lesser_course((wish("a"), wish("b")), (("a", (1,)),)), ("agreed", (("a", 1),)))
        self.assertEqual(lesser_course((wish("a"), wish("b")), ()), ("agreed", ()))
        told = lesser_course((wish("b"), wish("a", (1, 2)), wish("c")), (("a", (7,)),))
        self.assertEqual(told, ("ring", [(("b", 1), ("a", 1), ("c", 1))], [(("a", 1),), (("a", 2),)]))

    def test_what_needs_a_kind_left_out_is_not_asked(self):
        wishes = (wish("a", (1, 2)), wish("b", (5,), True, ("a", 1)))
        self.assertEqual(lesser_course(wishes, (("b", (5,)),)), ("agreed", ()))

    def test_failed(self):
        self.assertEqual(lesser_course((wish("a", must=True),), ()), ("failed", "a"))
        wishes = (wish("c"), wish("b", must=True), wish("a", must=True))
        self.assertEqual(lesser_course(wishes, ()), ("failed", "b"))
        self.assertEqual(lesser_course(wishes, (("b", (1,)),)), ("failed", "a"))
        self.assertEqual(lesser_course(wishes, (("b", (2,)), ("a", (2,)))),
                         ("ring", [(("c", 1), ("b", 1), ("a", 1))], [(("b", 1), ("a", 1))]))

    def test_failed_later(self):
        wishes = (wish("a", (1, 2)), wish("b", (5,), True, ("a", 2)))
        self.assertEqual(lesser_course(wishes, (("a", (9,)),)), ("failed", "b"))
        self.assertEqual(lesser_course(wishes, (("a", (2,)),)), ("failed", "b"))

    def test_asks_that_come_more_than_once(self):
        wishes = (wish("a", (1, 2)), wish("b", (5, 6), False, ("a", 2)))
        told = lesser_course(wishes, (("a", (9,)), ("b", (9,))))
        self.assertEqual(told, ("ring", [], [(("a", 1),), (("a", 2), ("b", 5)), (("a", 1),), (("a", 2), ("b", 6))]))

    def test_an_ask_of_the_lead_comes_again_in_the_ring(self):
        # Behind no of the other kind the stand is another one, though the ask is as it was.
        wishes = (wish("a", (1, 2)), wish("b", (5,), False, ("a", 2)))
        told = lesser_course(wishes, (("a", (9,)),))
        self.assertEqual(told, ("ring", [(("a", 1),), (("a", 2), ("b", 5))], [(("a", 2),), (("a", 1),)]))

    def test_a_long_ring(self):
        wishes = (
            wish("a", (1, 2, 3, 4, 5, 6)), wish("b", (1, 2, 3, 4, 5, 6), False, ("a", 3)),
            wish("c", (1, 2, 3, 4, 5), False, ("b", 2)), wish("d", (1, 2, 3, 4, 5), False, ("c", 5)),
        )
        bounds = tuple([(kind, (9,)) for kind in "abcd"])
        told = lesser_course(wishes, bounds)
        self.assertEqual((told[1], len(told[2])), ([], 900))
        self.assertEqual(told, walked(wishes, bounds))

    def test_all_small_ones(self):
        words = set()
        for wishes, bounds in SMALL:
            told = lesser_course(wishes, bounds)
            self.assertEqual(told, walked(wishes, bounds))
            words.add(told[0])
        self.assertEqual(words, {"ring", "agreed", "failed"})


class LetsRing(unittest.TestCase):
    RING = ((wish("a", (1, 0)), wish("b", (1,))), (("a", (9,)),))
    AGREED = ((wish("a", (1, 0)),), (("a", (0,)),))
    FAILED = ((wish("a", (1, 0), True),), ())

    def no(self, book, *things):
        for thing in things:
            self.assertIs(lets_ring(*book, thing), False, repr(thing)[:80])

    def test_what_is_told(self):
        for book in SMALL + [self.RING, self.AGREED, self.FAILED]:
            self.assertIs(lets_ring(*book, lesser_course(*book)), True)

    def test_what_is_told_of_others(self):
        for book in SMALL:
            for other in SMALL:
                told = lesser_course(*other)
                self.assertIs(lets_ring(*book, told), told == lesser_course(*book))

    def test_another_lead_or_ring(self):
        lead, ring = [(("a", 1), ("b", 1))], [(("a", 1),), (("a", 0),)]
        self.assertIs(lets_ring(*self.RING, ("ring", lead, ring)), True)
        self.no(self.RING, ("ring", [], lead + ring), ("ring", lead, ring[::-1]), ("ring", lead, ring + ring))
        self.no(self.RING, ("ring", lead + ring, ring), ("ring", lead + ring[:1], ring[1:] + ring[:1]), ("ring", lead, ring[:1]))
        self.no(self.RING, ("ring", lead, []), ("ring", ring, lead), ("ring", lead), ("ring", lead, ring, []))
        self.no(self.RING, ("agreed", lead, ring), ("Ring", lead, ring), ("agreed", (("a", 0),)))

    def test_each_part_of_another_kind(self):
        for book in (self.RING, self.AGREED, self.FAILED):
            self.no(book, *kin(lesser_course(*book)))

    def test_truths_for_numbers(self):
        self.no(self.AGREED, ("agreed", (("a", False),)))
        self.no(self.RING, ("ring", [(("a", True), ("b", 1))], [(("a", 1),), (("a", 0),)]))
        self.no(self.RING, ("ring", [(("a", 1), ("b", 1))], [(("a", 1),), (("a", False),)]))

    def test_anything_else(self):
        for book in (self.RING, self.AGREED, self.FAILED):
            told = lesser_course(*book)
            self.no(book, *STRANGE)
            for thing in STRANGE:
                self.no(book, (thing,) + told[1:], told[:1] + (thing,) + told[2:], told[:-1] + (thing,), told + (thing,), [thing])


class WhatStays(unittest.TestCase):
    def test_nothing_handed_in_is_changed(self):
        book = LetsRing.RING
        things = [lesser_course(*book), ["ring", [[["a", 1]]], [[]]], {"ring": [[]]}]
        before = repr((book, things))
        for thing in things:
            lets_ring(*book, thing)
        self.assertEqual(repr((book, things)), before)

    def test_the_same_again_behind_changes(self):
        for book in SMALL + [LetsRing.RING]:
            told = lesser_course(*book)
            kept = copy.deepcopy(told)
            self.assertIs(type(told), tuple)
            if told[0] == "ring":
                told[1].append(None)
                told[2].clear()
                self.assertEqual(told[1], kept[1] + [None])
            self.assertEqual(lesser_course(*book), kept)
            self.assertIs(lets_ring(*book, kept), True)


if __name__ == "__main__":
    unittest.main()
