import unittest

from crossedwishes.letters import is_letter, letter_back
from tests.things import STRANGE, kin

ASK = ("a", "ask", 1, 0, 1, (("size", 1), ("echo", 0)))
BYE = ("b", "bye", 1, 2, 0, ())
SIX = tuple([(kind, worth) for worth, kind in enumerate("abcdef")])


def with_part(letter, at, part):
    return letter[:at] + (part,) + letter[at + 1:]


class Letters(unittest.TestCase):
    def yes(self, *things):
        for thing in things:
            self.assertIs(is_letter(thing), True, repr(thing)[:80])

    def no(self, *things):
        for thing in things:
            self.assertIs(is_letter(thing), False, repr(thing)[:80])

    def test_each_word(self):
        self.yes(ASK, BYE)
        self.yes(*[with_part(ASK, 1, word) for word in ("ask", "yes", "no", "rather")])
        self.yes(*[with_part(BYE, 1, word) for word in ("bye", "here", "there")])
        self.no(*[with_part(letter, 1, word) for letter in (ASK, BYE)
                  for word in ("", "Ask", "ask ", "asks", "open", "close", "tick", "wish", None, 0, ("ask",), ["bye"], b"ask")])

    def test_who_is_a_name(self):
        self.yes(*[with_part(letter, 0, who) for letter in (ASK, BYE) for who in ("a", "z", "abcdefgh", "open", "wish")])
        self.no(*[with_part(letter, 0, who) for letter in (ASK, BYE)
                  for who in ("", "abcdefghi", "A", "a1", "a b", " a", "a\n", None, 1, True, ("a",), ["a"])])

    def test_mine_from_one_on(self):
        self.yes(*[with_part(letter, 2, mine) for letter in (ASK, BYE) for mine in (1, 2, 10000, 10 ** 99)])
        self.no(*[with_part(letter, 2, mine) for letter in (ASK, BYE) for mine in (0, -1, -(10 ** 99), True, False, None, "1", (1,))])

    def test_yours_from_nought_on(self):
        self.yes(*[with_part(letter, 3, yours) for letter in (ASK, BYE) for yours in (0, 1, 2, 10000, 10 ** 99)])
        self.no(*[with_part(letter, 3, yours) for letter in (ASK, BYE) for yours in (-1, -(10 ** 99), True, False, None, "0", (0,))])

    def test_number_from_one_on_of_an_ask_and_its_answers(self):
        for word in ("ask", "yes", "no", "rather"):
            letter = with_part(ASK, 1, word)
            self.yes(*[with_part(letter, 4, number) for number in (1, 2, 10 ** 99)])
            self.no(*[with_part(letter, 4, number) for number in (0, -1, True, False, None, "1", (1,))])

    def test_number_nought_of_the_others(self):
        for word in ("bye", "here", "there"):
            letter = with_part(BYE, 1, word)
            self.yes(with_part(letter, 4, 0))
            self.no(*[with_part(letter, 4, number) for number in (1, 2, -1, True, False, None, "0", "", ())])

    def test_at_most_six_pairs(self):
        for word in ("ask", "yes", "no", "rather"):
            letter = with_part(ASK, 1, word)
            self.yes(*[with_part(letter, 5, SIX[:many]) for many in range(7)])
            self.no(with_part(letter, 5, SIX + (("g", 1),)))

    def test_no_pairs_of_bye_here_there(self):
        for word in ("bye", "here", "there"):
            letter = with_part(BYE, 1, word)
            self.yes(with_part(letter, 5, ()))
            self.no(*[with_part(letter, 5, pairs) for pairs in ((("a", 1),), SIX, [], None, "", ((),), 0, {})])

    def test_pairs_of_kinds_and_worths(self):
        self.yes(*[with_part(ASK, 5, (("a", worth),)) for worth in (0, 1, 9999)])
        self.no(*[with_part(ASK, 5, (("a", worth),)) for worth in (-1, 10000, True, False, None, "1", (1,))])
        self.yes(*[with_part(ASK, 5, ((kind, 1),)) for kind in ("a", "abcdefgh")])
        self.no(*[with_part(ASK, 5, ((kind, 1),)) for kind in ("", "abcdefghi", "A", "a ", None, 1, ("a",), ["a"])])
        self.no(*[with_part(ASK, 5, (pair,)) for pair in (("a",), ("a", 1, 1), (), ["a", 1], "a1", None, (1, "a"))])
        self.no(*[with_part(ASK, 5, (("a", 1), pair)) for pair in (("b",), ("b", -1), (), ["b", 1], "b1", None, (1, "b"))])
        self.no(*[with_part(ASK, 5, pairs) for pairs in ([("a", 1)], {"a": 1}, ("a", 1), None, "", 0, (("a", 1), None))])

    def test_no_kind_twice(self):
        self.no(with_part(ASK, 5, (("a", 1), ("a", 1))), with_part(ASK, 5, (("a", 1), ("a", 2))))
        self.no(with_part(ASK, 5, (("a", 1), ("b", 1), ("a", 2))), with_part(ASK, 5, SIX[:5] + (("a", 9),)))
        self.yes(with_part(ASK, 5, (("a", 1), ("b", 1))), with_part(ASK, 5, (("b", 1), ("a", 1))))

    def test_parts(self):
        for letter in (ASK, BYE):
            self.no(letter[:5], letter[1:], letter + (0,), letter + ((),), list(letter), (letter,), ())

    def test_each_part_of_another_kind(self):
        for letter in (ASK, BYE, ("c", "rather", 1, 1, 1, (("a", 1), ("b", 0))), ("z", "there", 1, 0, 0, ())):
            self.yes(letter)
            self.no(*kin(letter))

    def test_anything_else(self):
        self.no(*STRANGE)
        for letter in (ASK, BYE):
            for thing in STRANGE:
                self.no(*[with_part(letter, at, thing) for at in range(6) if not is_number_there(at, letter, thing)])
                self.no(with_part(letter, 5, (thing,)), with_part(letter, 5, ((thing, 1),)), with_part(letter, 5, (("a", thing),)))
                self.no((thing,) * 6, [thing] * 6)


def is_number_there(at, letter, thing):
    """Whether one of the strange things is a whole number that may stand at this place."""
    fits = at in (2, 3) or at == 4 and letter[1] == "ask"
    return fits and isinstance(thing, int) and not isinstance(thing, bool) and thing > 0


class LetterBack(unittest.TestCase):
    def test_mine_and_yours_exchanged(self):
        self.assertEqual(letter_back(("a", "ask", 3, 5, 2, (("a", 1),)), "b"), ("b", "bye", 5, 3, 0, ()))
        self.assertEqual(letter_back(("b", "bye", 1, 10 ** 99, 0, ()), "abcdefgh"), ("abcdefgh", "bye", 10 ** 99, 1, 0, ()))
        self.assertEqual(letter_back(("a", "here", 7, 7, 0, ()), "a"), ("a", "bye", 7, 7, 0, ()))

    def test_it_is_a_letter_of_each_word(self):
        for word in ("ask", "yes", "no", "rather"):
            told = letter_back(("a", word, 3, 5, 2, SIX), "b")
            self.assertEqual(told, ("b", "bye", 5, 3, 0, ()))
            self.assertIs(is_letter(told), True)
        for word in ("bye", "here", "there"):
            self.assertEqual(letter_back(("a", word, 3, 5, 0, ()), "b"), ("b", "bye", 5, 3, 0, ()))

    def test_back_and_back_again(self):
        bye = ("a", "bye", 4, 9, 0, ())
        self.assertEqual(letter_back(letter_back(bye, "b"), "a"), bye)


class WhatStays(unittest.TestCase):
    def test_nothing_handed_in_is_changed_and_the_same_is_told_again(self):
        things = [list(ASK), with_part(ASK, 5, [["a", 1]]), with_part(ASK, 5, {"a": 1}), ASK, BYE]
        before = repr(things)
        first = [is_letter(thing) for thing in things]
        self.assertEqual([is_letter(thing) for thing in things], first)
        self.assertEqual(letter_back(BYE, "c"), letter_back(BYE, "c"))
        self.assertEqual(repr(things), before)


if __name__ == "__main__":
    unittest.main()
