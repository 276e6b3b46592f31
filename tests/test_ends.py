import copy
import unittest

from crossedwishes.ends import closing, new_end, opened, ticked, wished
from crossedwishes.errors import NotClosed, NotOpen
from crossedwishes.hearing import heard
from crossedwishes.wishes import plan_of
from tests.things import closed_as, part, wish, with_parts

WISHES = (wish("size", (3, 1, 2), True), wish("echo", (1,), False, ("size", 1)))
PLAN = (("size", (3, 1, 2)), ("echo", (1,)))
BOUNDS = (("hue", (2, 1)),)
OTHER = (wish("hue", (4, 5)), wish("size", (3, 2), True))

NEW = ("a", WISHES, "closed", 0, 0, 0, (), (), None, 0, None, None, 0, 0, "new")
ASKING = ("a", WISHES, "asking", 1, 0, 1, PLAN, (), None, 0, None, None, 3, 0, "")
# The other end opened for the fourth time, would rather have 1, was asked that, and said yes; its ask was agreed.
LEARNED = with_parts(ASKING, yours=4)
REFUSED = with_parts(LEARNED, number=2, plan=(("size", (1, 2)), ("echo", (1,))), refused=(("size", 3),))
GIVEN = with_parts(REFUSED, given=(("size", 1), ("echo", 1)))
YES = ("a", "yes", 1, 4, 1, (("hue", 1),))
OPEN = with_parts(GIVEN, stand="open", heard=1, took=(("hue", 1),), last=YES)
CLOSED = ("a", WISHES, "closed", 1, 4, 0, (), (), None, 0, None, None, 0, 0, "closed")


def led():
    """The ends above, come to by events."""
    ends = [new_end("a", WISHES)]
    ends.append(opened(ends[-1])[0])
    for letter in (
        ("b", "there", 4, 0, 0, ()), ("b", "rather", 4, 1, 1, (("size", 1),)),
        ("b", "yes", 4, 1, 2, (("size", 1), ("echo", 1))), ("b", "ask", 4, 1, 1, (("hue", 1),)),
    ):
        ends.append(heard(ends[-1], letter, BOUNDS)[0])
    ends.append(closing(ends[-1])[0])
    return ends


class Told(unittest.TestCase):
    def told(self, told, end, letters):
        self.assertEqual(told, (end, letters))
        self.assertEqual([type(thing) for thing in (told, *told)], [tuple, tuple, list])


class Ends(Told):
    def test_the_ends_here_are_come_to_by_events(self):
        self.assertEqual(led(), [NEW, ASKING, LEARNED, REFUSED, GIVEN, OPEN, CLOSED])

    def test_a_new_end(self):
        self.assertEqual(new_end("a", WISHES), NEW)
        self.assertEqual(new_end("abcdefgh", ()), ("abcdefgh", (), "closed", 0, 0, 0, (), (), None, 0, None, None, 0, 0, "new"))


class Opened(Told):
    def test_a_new_end(self):
        self.told(opened(NEW), ASKING, [("a", "ask", 1, 0, 1, (("size", 3),))])

    def test_a_closed_end_knows_the_other_opening(self):
        end = with_parts(ASKING, turn=2, yours=4)
        self.told(opened(CLOSED), end, [("a", "ask", 2, 4, 1, (("size", 3),))])

    def test_no_echoes_and_no_why_any_more(self):
        shut = with_parts(CLOSED, echoes=3, why="echo", turn=7)
        self.told(opened(shut), with_parts(ASKING, turn=8, yours=4), [("a", "ask", 8, 4, 1, (("size", 3),))])

    def test_all_tries(self):
        for tries in (1, 2, 9):
            self.told(opened(NEW, tries=tries), with_parts(ASKING, tries=tries), [("a", "ask", 1, 0, 1, (("size", 3),))])

    def test_wishes_of_none_ask_no_pairs(self):
        end = ("b", (), "asking", 1, 0, 1, (), (), None, 0, None, None, 3, 0, "")
        self.told(opened(new_end("b", ())), end, [("b", "ask", 1, 0, 1, ())])

    def test_not_closed(self):
        for end in (ASKING, LEARNED, REFUSED, GIVEN, OPEN):
            with self.assertRaises(NotClosed):
                opened(end)
            with self.assertRaises(NotClosed):
                opened(end, tries=1)


class Closing(Told):
    def test_each_end_that_is_not_closed(self):
        self.told(closing(ASKING), closed_as(ASKING, "closed"), [("a", "bye", 1, 0, 0, ())])
        for end in (LEARNED, REFUSED, GIVEN, OPEN):
            self.told(closing(end), CLOSED, [("a", "bye", 1, 4, 0, ())])

    def test_turn_yours_wishes_and_echoes_stay_and_nothing_else(self):
        end = with_parts(OPEN, turn=6, yours=9, echoes=2, tries=1, number=5)
        shut = ("a", WISHES, "closed", 6, 9, 0, (), (), None, 0, None, None, 0, 2, "closed")
        self.told(closing(end), shut, [("a", "bye", 6, 9, 0, ())])

    def test_not_open(self):
        for end in (NEW, CLOSED, with_parts(CLOSED, why="bye"), with_parts(CLOSED, echoes=3, why="echo")):
            with self.assertRaises(NotOpen):
                closing(end)


class Ticked(Told):
    def test_closed(self):
        for end in (NEW, CLOSED, with_parts(CLOSED, echoes=3, why="echo")):
            self.told(ticked(end), end, [])

    def test_asks_again(self):
        self.told(ticked(ASKING), with_parts(ASKING, tries=2), [("a", "ask", 1, 0, 1, (("size", 3),))])
        self.told(ticked(REFUSED), with_parts(REFUSED, tries=2), [("a", "ask", 1, 4, 2, (("size", 1), ("echo", 1)))])

    def test_asks_again_though_it_took(self):
        end = with_parts(REFUSED, heard=1, took=(("hue", 1),), last=YES)
        self.told(ticked(end), with_parts(end, tries=2), [("a", "ask", 1, 4, 2, (("size", 1), ("echo", 1)))])

    def test_here(self):
        for end in (GIVEN, OPEN):
            self.told(ticked(end), with_parts(end, tries=2), [("a", "here", 1, 4, 0, ())])

    def test_given_an_ask_of_no_pairs(self):
        end = ("b", (), "asking", 1, 2, 1, (), (), (), 0, None, None, 3, 0, "")
        self.told(ticked(end), with_parts(end, tries=2), [("b", "here", 1, 2, 0, ())])

    def test_down_to_none_and_one_more(self):
        for tries in (1, 3, 9):
            for end in (with_parts(REFUSED, tries=tries), with_parts(OPEN, tries=tries)):
                now = end
                for left in reversed(range(tries)):
                    now, letters = ticked(now)
                    self.assertEqual((now, len(letters)), (with_parts(end, tries=left), 1))
                self.told(ticked(now), closed_as(end, "tries"), [("a", "bye", 1, 4, 0, ())])
                self.told(ticked(ticked(now)[0]), closed_as(end, "tries"), [])

    def test_echoes_stay(self):
        end = with_parts(OPEN, tries=0, echoes=2)
        self.told(ticked(end), closed_as(end, "tries", echoes=2), [("a", "bye", 1, 4, 0, ())])


class Wished(Told):
    def test_closed(self):
        for end in (NEW, CLOSED, with_parts(CLOSED, echoes=3, why="echo")):
            self.told(wished(end, OTHER), with_parts(end, wishes=OTHER), [])
            self.told(wished(end, (), tries=9), with_parts(end, wishes=()), [])

    def test_asking(self):
        end = with_parts(ASKING, wishes=OTHER, number=2, plan=plan_of(OTHER))
        self.told(wished(ASKING, OTHER), end, [("a", "ask", 1, 0, 2, (("hue", 4), ("size", 3)))])

    def test_without_what_is_refused(self):
        plan = (("hue", (4, 5)), ("size", (2,)))
        end = with_parts(REFUSED, wishes=OTHER, number=3, plan=plan)
        self.told(wished(REFUSED, OTHER), end, [("a", "ask", 1, 4, 3, (("hue", 4), ("size", 2)))])

    def test_without_kinds_that_are_refused(self):
        start = with_parts(LEARNED, refused=(("echo", -1), ("size", 1)), number=4)
        wishes = (wish("echo", (7, 8)), wish("size", (1, 2)), wish("hue"))
        end = with_parts(start, wishes=wishes, number=5, plan=(("echo", ()), ("size", (2,)), ("hue", (1,))))
        self.told(wished(start, wishes), end, [("a", "ask", 1, 4, 5, (("size", 2), ("hue", 1)))])

    def test_open_asks_anew_and_keeps_what_it_took(self):
        start = with_parts(OPEN, tries=0, echoes=1)
        end = with_parts(start, wishes=WISHES, stand="asking", number=3, plan=(("size", (1, 2)), ("echo", (1,))), given=None, tries=3)
        self.told(wished(start, WISHES), end, [("a", "ask", 1, 4, 3, (("size", 1), ("echo", 1)))])

    def test_all_tries(self):
        for tries in (1, 9):
            told = wished(with_parts(OPEN, tries=0), OTHER, tries=tries)
            self.assertEqual(part(told[0], "tries"), tries)

    def test_wishes_of_none(self):
        end = with_parts(OPEN, wishes=(), stand="asking", number=3, plan=(), given=None)
        self.told(wished(OPEN, ()), end, [("a", "ask", 1, 4, 3, ())])

    def test_failed_by_what_was_refused(self):
        wishes = (wish("hue"), wish("size", (3,), True))
        for start in (REFUSED, GIVEN, OPEN):
            self.told(wished(start, wishes), closed_as(start, "failed", wishes=wishes), [("a", "bye", 1, 4, 0, ())])
        self.assertEqual(wished(ASKING, wishes)[1][0][1], "ask")

    def test_failed_by_a_kind_that_was_refused(self):
        start = with_parts(LEARNED, refused=(("echo", -1),), echoes=2)
        wishes = (wish("echo", (7, 8), True),)
        self.told(wished(start, wishes), closed_as(start, "failed", wishes=wishes, echoes=2), [("a", "bye", 1, 4, 0, ())])

    def test_failed_whether_its_needs_stand_or_not(self):
        wishes = (wish("hue", (1, 2)), wish("size", (3,), True, ("hue", 2)))
        self.told(wished(REFUSED, wishes), closed_as(REFUSED, "failed", wishes=wishes), [("a", "bye", 1, 4, 0, ())])

    def test_what_need_not_be_does_not_fail(self):
        wishes = (wish("size", (3,)),)
        end = with_parts(REFUSED, wishes=wishes, number=3, plan=(("size", ()),))
        self.told(wished(REFUSED, wishes), end, [("a", "ask", 1, 4, 3, ())])


class WhatStays(unittest.TestCase):
    def test_nothing_handed_in_is_changed_and_the_same_is_told_again(self):
        ends = [NEW, CLOSED, ASKING, REFUSED, GIVEN, OPEN, with_parts(OPEN, tries=0)]
        before = repr((ends, OTHER))
        for end in ends:
            for event in (opened, closing, ticked, lambda one: wished(one, OTHER)):
                try:
                    told = event(end)
                except (NotClosed, NotOpen):
                    continue
                kept = copy.deepcopy(told)
                told[1].append(None)
                self.assertEqual(event(end), kept)
                told[1].clear()
                self.assertEqual(event(end), kept)
        self.assertEqual(repr((ends, OTHER)), before)


if __name__ == "__main__":
    unittest.main()
