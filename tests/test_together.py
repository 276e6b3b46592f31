import copy
import unittest

from crossedwishes.courses import comes_to, course
from crossedwishes.together import agreed_asks, lets_together, together
from tests.things import SMALL, STRANGE, all_courses, kin, wish

WORDS = ("always", "sometimes", "never")

ALWAYS = ((wish("a", (3, 1, 2), True),), (("a", (1, 2)),))
# Whether the wish that must be is asked, and refused, hangs on what the bounds would rather have.
SOMETIMES = ((wish("a", (1, 2, 3)), wish("d", (4,), True, ("a", 2))), (("a", (2, 3)),))
NEVER = ((wish("a", (1, 2), True),), (("a", (9, 8)),))


def right_word(wishes, bounds):
    ends = [came[0] for steps, came in all_courses(wishes, bounds)]
    if "failed" not in ends:
        return "always"
    return "sometimes" if "agreed" in ends else "never"


class Together(unittest.TestCase):
    def right(self, wishes, bounds, told):
        word, one, other = told
        self.assertIs(type(told), tuple)
        self.assertIs(type(word), str)
        if word == "never":
            self.assertIsNone(one)
        else:
            self.assertEqual(comes_to(wishes, bounds, one)[0], "agreed")
        if word == "always":
            self.assertIsNone(other)
        else:
            self.assertEqual(comes_to(wishes, bounds, other)[0], "failed")

    def test_always(self):
        told = together(*ALWAYS)
        self.assertEqual(told[0], "always")
        self.right(*ALWAYS, told)

    def test_sometimes(self):
        told = together(*SOMETIMES)
        one = [((("a", 1),), ("rather", (("a", 3),))), ((("a", 3),), ("yes", (("a", 3),)))]
        other = [((("a", 1),), ("rather", (("a", 2),))), ((("a", 2), ("d", 4)), ("no", (("d", 4),)))]
        self.assertEqual(told, ("sometimes", one, other))

    def test_never(self):
        told = together(*NEVER)
        self.assertEqual(told[0], "never")
        self.right(*NEVER, told)

    def test_wishes_of_none(self):
        self.assertEqual(together((), ()), ("always", [((), ("yes", ()))], None))

    def test_a_kind_that_must_be_and_is_not_known(self):
        self.assertEqual(together((wish("a", must=True),), ()), ("never", None, [((("a", 1),), ("no", (("a", 1),)))]))

    def test_all_small_ones(self):
        words = []
        for wishes, bounds in SMALL:
            told = together(wishes, bounds)
            self.assertEqual(told[0], right_word(wishes, bounds))
            self.right(wishes, bounds, told)
            words.append(told[0])
        self.assertEqual(set(words), set(WORDS))

    def test_the_liked_course_may_fail_and_another_agree(self):
        self.assertEqual(course(*SOMETIMES)[0], "failed")
        wishes, bounds = SOMETIMES[0], (("a", (3, 2)),)
        self.assertEqual(course(wishes, bounds)[0], "agreed")
        self.assertEqual(together(wishes, bounds)[0], "sometimes")

    def test_many_courses(self):
        wishes = (wish("a", (1, 2, 3, 4, 5)), wish("b", (1, 2, 3), True))
        bounds = (("a", (7, 8, 9)), ("b", (7, 3)))
        found = all_courses(wishes, bounds)
        self.assertTrue(500 < len(found) <= 3000, len(found))
        told = together(wishes, bounds)
        self.assertEqual(told[0], right_word(wishes, bounds))
        self.right(wishes, bounds, told)
        self.assertEqual(agreed_asks(wishes, bounds), sorted({came[1] for steps, came in found if came[0] == "agreed"}))


class AgreedAsks(unittest.TestCase):
    def test_one_some_none(self):
        self.assertEqual(agreed_asks(*ALWAYS), [(("a", 1),), (("a", 2),)])
        self.assertEqual(agreed_asks(*SOMETIMES), [(("a", 3),)])
        self.assertEqual(agreed_asks(*NEVER), [])
        self.assertEqual(agreed_asks((), ()), [()])

    def test_rising(self):
        wishes = (wish("b", (5, 10, 9, 2)), wish("a", (3, 1)))
        told = agreed_asks(wishes, (("b", (10, 9, 2)), ("a", (1,))))
        self.assertEqual(told, [(("b", worth), ("a", 1)) for worth in (2, 9, 10)])
        wishes = (wish("b", (1, 2, 3)), wish("a", (4,), False, ("b", 2)))
        self.assertEqual(agreed_asks(wishes, (("b", (3, 2)), ("a", (4,)))), [(("b", 2), ("a", 4)), (("b", 3),)])

    def test_each_once(self):
        # Two ways lead to the same ask.
        told = agreed_asks((wish("a", (1, 2, 3)),), (("a", (8, 9)),))
        self.assertEqual(told, [()])

    def test_all_small_ones(self):
        for wishes, bounds in SMALL:
            asks = {came[1] for steps, came in all_courses(wishes, bounds) if came[0] == "agreed"}
            told = agreed_asks(wishes, bounds)
            self.assertIs(type(told), list)
            self.assertEqual(told, sorted(asks))


class LetsTogether(unittest.TestCase):
    def no(self, book, *things):
        for thing in things:
            self.assertIs(lets_together(*book, thing), False, repr(thing)[:80])

    def test_what_together_tells(self):
        for wishes, bounds in SMALL:
            self.assertIs(lets_together(wishes, bounds, together(wishes, bounds)), True)

    def test_other_right_ones_and_wrong_ones(self):
        for wishes, bounds in SMALL:
            found = all_courses(wishes, bounds)
            good = [steps for steps, came in found if came[0] == "agreed"][:6] + [None]
            bad = [steps for steps, came in found if came[0] == "failed"][:6] + [None]
            word = right_word(wishes, bounds)
            for one in good + bad:
                for other in good + bad:
                    fits = {
                        "always": one in good and one is not None and other is None,
                        "sometimes": one in good and one is not None and other in bad and other is not None,
                        "never": one is None and other in bad and other is not None,
                    }
                    for said in WORDS:
                        thing = (said, one, other)
                        self.assertIs(lets_together(wishes, bounds, thing), said == word and fits[word], thing)

    def test_wrong_words(self):
        for book in (ALWAYS, SOMETIMES, NEVER):
            word, one, other = together(*book)
            for said in ("", "Always", "ever", "always ", None, True, (word,), [word], *STRANGE):
                self.no(book, (said, one, other))
            for said in WORDS:
                if said != word:
                    self.no(book, (said, one, other))

    def test_courses_exchanged_left_out_or_cut(self):
        word, one, other = together(*SOMETIMES)
        self.no(SOMETIMES, (word, other, one), (word, one, None), (word, None, other), (word, one, one), (word, other, other))
        self.no(SOMETIMES, (word, one[:1], other), (word, one, other[:1]), (word, one, []), (word, [], other))
        self.no(SOMETIMES, (word, one + one[-1:], other), (word, tuple(one), other), (word, one, tuple(other)))
        word, one, other = together(*ALWAYS)
        self.no(ALWAYS, (word, one, one), (word, one, []), (word, one, False), (word, one, ()), (word, None, None))
        word, one, other = together(*NEVER)
        self.no(NEVER, (word, other, other), (word, [], other), (word, False, other), (word, None, None))

    def test_each_part_of_another_kind(self):
        self.no(SOMETIMES, *kin(together(*SOMETIMES)))
        for book in (ALWAYS, NEVER):
            told = together(*book)
            self.no(book, *[thing for thing in kin(told)], told[:2], told + (None,), list(told))

    def test_anything_else(self):
        for book in (ALWAYS, SOMETIMES, NEVER, ((), ())):
            word, one, other = together(*book)
            self.no(book, *STRANGE)
            for thing in STRANGE:
                if thing is not None:
                    self.no(book, (word, thing, other), (word, one, thing))
                self.no(book, (word, thing, thing), (word, [thing], other), (word, one, [thing]), (thing, thing, thing))


class WhatStays(unittest.TestCase):
    def test_nothing_handed_in_is_changed(self):
        word, one, other = together(*SOMETIMES)
        things = [(word, one, other), (word, [list(step) for step in one], other), [word, one, {"a": other}]]
        before = repr((SOMETIMES, things))
        for thing in things:
            lets_together(*SOMETIMES, thing)
        agreed_asks(*SOMETIMES)
        self.assertEqual(repr((SOMETIMES, things)), before)

    def test_the_same_again_behind_changes(self):
        for book in SMALL:
            told = together(*book)
            asks = agreed_asks(*book)
            kept = copy.deepcopy((told, asks))
            for part in told[1:]:
                if part is not None:
                    part.insert(0, None)
            asks.append(None)
            self.assertEqual((together(*book), agreed_asks(*book)), kept)
            asks.clear()
            self.assertEqual((together(*book), agreed_asks(*book)), kept)

    def test_the_two_courses_are_apart(self):
        told = together(*SOMETIMES)
        kept = copy.deepcopy(told[2])
        told[1].clear()
        self.assertEqual(told[2], kept)


if __name__ == "__main__":
    unittest.main()
