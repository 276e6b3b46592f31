import copy
import itertools
import unittest

from crossedwishes.hearing import heard, stands_open_with
from crossedwishes.letters import LETTER_WORDS
from crossedwishes.wishes import plan_of
from tests.things import closed_as, part, wish, with_parts

WISHES = (wish("size", (3, 1, 2), True), wish("echo", (1, 4)), wish("ink", (7,), False, ("size", 2)))
PLAN = plan_of(WISHES)
ASK = (("size", 3), ("echo", 1))
BOUNDS = (("hue", (2, 1)), ("oil", (0,)))

# Opened twice, and it has learned of the other's fifth opening.
KNOWS = ("a", WISHES, "asking", 2, 5, 1, PLAN, (), None, 0, None, None, 3, 0, "")
# It has given and taken, waited twice and heard one echo.
OPEN = with_parts(
    KNOWS, stand="open", number=3, plan=(("size", (2, 1)), ("echo", ()), ("ink", (7,))), refused=(("echo", -1), ("size", 3)),
    given=(("size", 2), ("ink", 7)), heard=4, took=(("hue", 1),), last=("a", "yes", 2, 5, 4, (("hue", 1),)), tries=1, echoes=1,
)
CLOSED = closed_as(OPEN, "closed")
NEW = ("a", WISHES, "closed", 0, 0, 0, (), (), None, 0, None, None, 0, 0, "new")
FRESH = ("a", WISHES, "asking", 1, 0, 1, PLAN, (), None, 0, None, None, 3, 0, "")


def letter(word, number=None, pairs=(), who="b", mine=5, yours=2):
    bare = word in ("bye", "here", "there")
    return (who, word, mine, yours, (0 if bare else 1) if number is None else number, pairs)


def each_word(**parts):
    return [letter(word, **parts) for word in LETTER_WORDS]


class Told(unittest.TestCase):
    def hears(self, end, one, now, letters, **tries):
        told = heard(end, one, BOUNDS, **tries)
        self.assertEqual(told, (now, letters))
        self.assertEqual([type(thing) for thing in (told, *told)], [tuple, tuple, list])


class Echoes(Told):
    """Clause (a)."""

    def test_a_closed_end_hears_no_echo(self):
        for end in (NEW, CLOSED, with_parts(CLOSED, echoes=2)):
            for one in each_word(who="a") + each_word(who="a", mine=part(end, "turn") or 1, yours=9):
                self.hears(end, one, end, [])

    def test_up_to_the_third(self):
        for end in (with_parts(KNOWS, echoes=0), with_parts(OPEN, echoes=0)):
            for one in each_word(who="a") + each_word(who="a", mine=2, yours=5) + each_word(who="a", mine=9, yours=0):
                once = with_parts(end, echoes=1)
                twice = with_parts(end, echoes=2)
                self.hears(end, one, once, [])
                self.hears(once, one, twice, [])
                self.hears(twice, one, closed_as(end, "echo", echoes=3), [])

    def test_nothing_else_of_an_echo(self):
        # Of another who these would be answered, agreed, learned.
        for one in (letter("ask", 9, (("hue", 2),), who="a"), letter("yes", 1, ASK, who="a"), letter("bye", who="a", mine=9)):
            self.hears(KNOWS, one, with_parts(KNOWS, echoes=1), [])


class AtClosedEnds(Told):
    """Clause (b)."""

    def test_bye_to_the_opening_that_wrote(self):
        for mine in (1, 5, 8):
            for word in ("ask", "yes", "no", "rather", "here", "there"):
                self.hears(CLOSED, letter(word, mine=mine), CLOSED, [("a", "bye", 2, mine, 0, ())])

    def test_nothing_to_a_bye(self):
        for mine in (1, 5, 8):
            self.hears(CLOSED, letter("bye", mine=mine), CLOSED, [])

    def test_nothing_of_another_yours(self):
        for yours in (0, 1, 3):
            for one in each_word(yours=yours) + each_word(yours=yours, mine=9):
                self.hears(CLOSED, one, CLOSED, [])

    def test_a_new_end_is_never_meant(self):
        for one in each_word(yours=0) + each_word(yours=1):
            self.hears(NEW, one, NEW, [])


class Openings(Told):
    """Clauses (c), (d) and (e)."""

    def test_elder(self):
        for end in (KNOWS, OPEN):
            for mine in (1, 4):
                for yours in (0, 1, 2, 3):
                    for one in each_word(mine=mine, yours=yours):
                        self.hears(end, one, end, [])

    def test_newer_begins_anew_and_asks(self):
        for mine in (6, 50):
            now = with_parts(KNOWS, yours=mine, echoes=1)
            for yours in (0, 1, 3):
                for one in each_word(mine=mine, yours=yours):
                    self.hears(OPEN, one, now, [("a", "ask", 2, mine, 1, ASK)])

    def test_the_first_that_is_heard_is_newer(self):
        self.hears(FRESH, letter("ask", mine=1, yours=0), with_parts(FRESH, yours=1), [("a", "ask", 1, 1, 1, ASK)])

    def test_all_tries_behind_newer(self):
        for tries in (1, 9):
            self.hears(OPEN, letter("there", mine=6, yours=0), with_parts(KNOWS, yours=6, echoes=1, tries=tries),
                       [("a", "ask", 2, 6, 1, ASK)], tries=tries)

    def test_newer_goes_on(self):
        now = with_parts(KNOWS, yours=6, echoes=1)
        ask = ("a", "ask", 2, 6, 1, ASK)
        yes = ("a", "yes", 2, 6, 1, (("hue", 2),))
        self.hears(OPEN, letter("ask", 1, (("hue", 2),), mine=6), with_parts(now, heard=1, took=(("hue", 2),), last=yes), [ask, yes])
        self.hears(OPEN, letter("yes", 1, ASK, mine=6), with_parts(now, given=ASK), [ask])
        self.hears(OPEN, letter("yes", 3, part(OPEN, "given"), mine=6), now, [ask])
        plan = (("size", (3, 1, 2)), ("echo", (4,)), ("ink", (7,)))
        self.hears(OPEN, letter("rather", 1, (("echo", 9),), mine=6),
                   with_parts(now, number=2, plan=plan, refused=(("echo", 1),)),
                   [ask, ("a", "ask", 2, 6, 2, (("size", 3), ("echo", 4)))])
        self.hears(OPEN, letter("no", 1, ASK, mine=6), closed_as(now, "failed"), [ask, ("a", "bye", 2, 6, 0, ())])
        self.hears(OPEN, letter("bye", mine=6), closed_as(now, "bye"), [ask])
        self.hears(OPEN, letter("here", mine=6), now, [ask, ("a", "there", 2, 6, 0, ())])
        self.hears(OPEN, letter("there", mine=6), now, [ask])

    def test_another_yours(self):
        for end in (KNOWS, OPEN):
            for yours in (0, 1, 3, 5):
                for one in each_word(yours=yours):
                    self.hears(end, one, end, [])


class Asks(Told):
    """Clause (f), of asks."""

    def test_a_number_less(self):
        for number in (1, 3):
            self.hears(OPEN, letter("ask", number, (("hue", 2),)), OPEN, [])

    def test_just_that_heard(self):
        self.hears(OPEN, letter("ask", 4, (("hue", 1),)), OPEN, [part(OPEN, "last")])
        self.hears(OPEN, letter("ask", 4, (("zinc", 1),)), OPEN, [part(OPEN, "last")])

    def test_last_again_is_the_very_letter(self):
        # A letter as it was written, whatever the end has done since.
        end = with_parts(KNOWS, heard=1, last=("a", "no", 2, 5, 1, (("zinc", 1),)), number=4, tries=0)
        self.hears(end, letter("ask", 1), end, [("a", "no", 2, 5, 1, (("zinc", 1),))])

    def test_more_yes(self):
        for number in (1, 2, 70):
            pairs = (("oil", 0), ("hue", 1))
            yes = ("a", "yes", 2, 5, number, pairs)
            self.hears(KNOWS, letter("ask", number, pairs), with_parts(KNOWS, heard=number, took=pairs, last=yes), [yes])

    def test_more_yes_opens_where_given_is_there(self):
        end = with_parts(KNOWS, given=ASK)
        yes = ("a", "yes", 2, 5, 1, ())
        self.hears(end, letter("ask", 1, ()), with_parts(end, stand="open", heard=1, took=(), last=yes), [yes])

    def test_more_no_and_rather(self):
        no = ("a", "no", 2, 5, 5, (("zinc", 1),))
        rather = ("a", "rather", 2, 5, 5, (("oil", 0), ("hue", 2)))
        for end in (KNOWS, OPEN):
            now = with_parts(end, stand="asking", heard=5, took=None)
            self.hears(end, letter("ask", 5, (("hue", 9), ("zinc", 1))), with_parts(now, last=no), [no])
            self.hears(end, letter("ask", 5, (("oil", 1), ("hue", 9))), with_parts(now, last=rather), [rather])

    def test_tries_stay(self):
        yes = ("a", "yes", 2, 5, 5, (("hue", 2),))
        end = with_parts(OPEN, tries=0)
        self.hears(end, letter("ask", 5, (("hue", 2),)), with_parts(end, heard=5, took=(("hue", 2),), last=yes), [yes], tries=9)


class Answers(Told):
    """Clause (f), of yes, no and rather."""

    WAITS = with_parts(KNOWS, number=2, tries=0, echoes=2, refused=(("ink", 7),))

    def test_another_number(self):
        for number in (1, 3, 20):
            for pairs in (ASK, (("size", 3),), (("size", 1),)):
                for word in ("yes", "no", "rather"):
                    self.hears(self.WAITS, letter(word, number, pairs), self.WAITS, [])

    def test_given_there_already(self):
        end = with_parts(self.WAITS, given=ASK)
        for pairs in (ASK, (("echo", 1),), (("size", 1),)):
            for word in ("yes", "no", "rather"):
                self.hears(end, letter(word, 2, pairs), end, [])
        end = ("a", (), "asking", 2, 5, 1, (), (), (), 0, None, None, 1, 0, "")
        self.hears(end, letter("yes", 1, ()), end, [])

    def test_pairs_that_cannot_be_an_answer(self):
        for word, pairs in (
            ("yes", ()), ("yes", ASK[:1]), ("yes", ASK[::-1]), ("yes", (("size", 3), ("echo", 4))), ("no", ()), ("rather", ()),
            ("no", ASK[::-1]), ("no", (("echo", 4),)), ("no", (("ink", 7),)), ("no", (("zinc", 1),)), ("rather", (("echo", 1),)),
            ("rather", (("echo", 4), ("size", 1))), ("rather", (("ink", 8),)), ("rather", (("echo", 4), ("zinc", 1))),
        ):
            self.hears(self.WAITS, letter(word, 2, pairs), self.WAITS, [])

    def test_agreed(self):
        for tries in (1, 3, 9):
            self.hears(self.WAITS, letter("yes", 2, ASK), with_parts(self.WAITS, given=ASK, tries=tries), [], tries=tries)

    def test_agreed_opens_where_it_took(self):
        for took in ((), (("hue", 1),)):
            end = with_parts(self.WAITS, heard=1, took=took, last=("a", "yes", 2, 5, 1, took))
            self.hears(end, letter("yes", 2, ASK), with_parts(end, stand="open", given=ASK, tries=3), [])

    def test_a_plan_behind_no(self):
        plan = (("size", (3, 1, 2)), ("echo", ()), ("ink", (7,)))
        now = with_parts(self.WAITS, number=3, plan=plan, refused=(("echo", -1), ("ink", 7)), tries=5)
        self.hears(self.WAITS, letter("no", 2, (("echo", 1),)), now, [("a", "ask", 2, 5, 3, (("size", 3),))], tries=5)

    def test_a_plan_behind_rather(self):
        plan = (("size", (2, 1)), ("echo", (4,)), ("ink", (7,)))
        now = with_parts(self.WAITS, number=3, plan=plan, refused=(("echo", 1), ("ink", 7), ("size", 3)), tries=3)
        self.hears(self.WAITS, letter("rather", 2, (("size", 2), ("echo", 8))), now,
                   [("a", "ask", 2, 5, 3, (("size", 2), ("echo", 4), ("ink", 7)))])

    def test_refused_is_rising_and_each_once(self):
        end = with_parts(self.WAITS, refused=(("echo", 1), ("size", 9)))
        told = heard(end, letter("rather", 2, (("size", 1), ("echo", 4))), BOUNDS)[0]
        self.assertEqual(part(told, "refused"), (("echo", 1), ("size", 3), ("size", 9)))

    def test_what_it_took_stays(self):
        end = with_parts(self.WAITS, heard=3, took=(("hue", 1),), last=("a", "yes", 2, 5, 3, (("hue", 1),)))
        told = heard(end, letter("no", 2, (("echo", 1),)), BOUNDS)[0]
        self.assertEqual([part(told, name) for name in ("stand", "heard", "took", "last", "echoes")],
                         ["asking", 3, (("hue", 1),), part(end, "last"), 2])

    def test_failed(self):
        bye = ("a", "bye", 2, 5, 0, ())
        self.hears(self.WAITS, letter("no", 2, (("size", 3),)), closed_as(self.WAITS, "failed"), [bye])
        self.hears(self.WAITS, letter("no", 2, ASK), closed_as(self.WAITS, "failed"), [bye])
        end = with_parts(self.WAITS, plan=(("size", (2,)), ("echo", ()), ("ink", ())))
        self.hears(end, letter("rather", 2, (("size", 3),)), closed_as(end, "failed"), [bye])


class Others(Told):
    """Clause (f), of bye, here and there."""

    def test_bye(self):
        for end in (KNOWS, OPEN):
            self.hears(end, letter("bye"), closed_as(end, "bye"), [])

    def test_here(self):
        for end in (KNOWS, OPEN, with_parts(OPEN, tries=0)):
            self.hears(end, letter("here"), end, [("a", "there", 2, 5, 0, ())])

    def test_there(self):
        for end in (KNOWS, OPEN, with_parts(OPEN, tries=0)):
            for tries in (1, 9):
                self.hears(end, letter("there"), with_parts(end, tries=tries), [], tries=tries)
            self.hears(end, letter("there"), with_parts(end, tries=3), [])


class ThirdNames(Told):
    def test_heard_as_the_others(self):
        ends = (NEW, CLOSED, FRESH, KNOWS, OPEN, Answers.WAITS)
        pairs = ((), ASK, (("size", 1),), (("hue", 2),))
        for end, word, mine, yours in itertools.product(ends, LETTER_WORDS, (4, 5, 6), (0, 1, 2)):
            for some in pairs[:1] if word in ("bye", "here", "there") else pairs:
                told = heard(end, letter(word, None, some, mine=mine, yours=yours), BOUNDS)
                for who in ("c", "aa", "open", "ask"):
                    self.assertEqual(heard(end, letter(word, None, some, who, mine, yours), BOUNDS), told)


class StandsOpenWith(unittest.TestCase):
    OTHER = with_parts(OPEN, name="b", turn=5, yours=2)

    def test_both_open_for_one_another(self):
        self.assertIs(stands_open_with(OPEN, self.OTHER), True)
        self.assertIs(stands_open_with(self.OTHER, OPEN), True)

    def test_one_not_open(self):
        for other in (with_parts(self.OTHER, stand="asking", took=None), closed_as(self.OTHER, "bye")):
            self.assertIs(stands_open_with(OPEN, other), False)
            self.assertIs(stands_open_with(other, OPEN), False)

    def test_other_opening_numbers(self):
        for other in (with_parts(self.OTHER, turn=6), with_parts(self.OTHER, yours=1), with_parts(self.OTHER, turn=2, yours=5)):
            self.assertIs(stands_open_with(OPEN, other), False)
            self.assertIs(stands_open_with(other, OPEN), False)

    def test_neither_open(self):
        self.assertIs(stands_open_with(NEW, with_parts(NEW, name="b")), False)


class WhatStays(unittest.TestCase):
    def test_nothing_handed_in_is_changed_and_the_same_is_told_again(self):
        ends = [NEW, CLOSED, FRESH, KNOWS, OPEN, Answers.WAITS]
        letters = [one for mine in (4, 5, 6) for one in each_word(mine=mine)] + [letter("yes", 1, ASK), letter("rather", 2, (("size", 1),))]
        before = repr((ends, letters, BOUNDS))
        for end in ends:
            for one in letters:
                told = heard(end, one, BOUNDS)
                kept = copy.deepcopy(told)
                told[1].append(None)
                self.assertEqual(heard(end, one, BOUNDS), kept)
                told[1].clear()
                self.assertEqual(heard(end, one, BOUNDS), kept)
        self.assertEqual(repr((ends, letters, BOUNDS)), before)


if __name__ == "__main__":
    unittest.main()
