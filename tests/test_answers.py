import itertools
import unittest

from crossedwishes.answers import answer, behind, is_answer
from crossedwishes.wishes import ask_of, plan_of
from tests.things import STRANGE, free_answers, kin, wish

BOUNDS = (("a", (3, 1, 2)), ("b", (0,)), ("c", (1, 0)))


class Answer(unittest.TestCase):
    def test_an_ask_of_no_pairs(self):
        self.assertEqual(answer(BOUNDS, ()), ("yes", ()))
        self.assertEqual(answer((), ()), ("yes", ()))

    def test_no_bounds(self):
        self.assertEqual(answer((), (("a", 1),)), ("no", (("a", 1),)))
        self.assertEqual(answer((), (("b", 0), ("a", 1))), ("no", (("b", 0), ("a", 1))))

    def test_kinds_that_they_have_not(self):
        self.assertEqual(answer(BOUNDS, (("d", 1),)), ("no", (("d", 1),)))
        self.assertEqual(answer(BOUNDS, (("e", 5), ("d", 1))), ("no", (("e", 5), ("d", 1))))
        self.assertEqual(answer(BOUNDS, (("e", 5), ("a", 1), ("d", 1))), ("no", (("e", 5), ("d", 1))))

    def test_no_goes_ahead_of_rather(self):
        self.assertEqual(answer(BOUNDS, (("a", 9), ("d", 1), ("b", 7))), ("no", (("d", 1),)))
        self.assertEqual(answer(BOUNDS, (("a", 9), ("b", 7), ("d", 1))), ("no", (("d", 1),)))

    def test_rather_the_most_liked(self):
        self.assertEqual(answer(BOUNDS, (("a", 9),)), ("rather", (("a", 3),)))
        self.assertEqual(answer(BOUNDS, (("c", 2), ("a", 0))), ("rather", (("c", 1), ("a", 3))))
        self.assertEqual(answer(BOUNDS, (("b", 1),)), ("rather", (("b", 0),)))

    def test_rather_leaves_out_what_is_within(self):
        self.assertEqual(answer(BOUNDS, (("c", 0), ("a", 4), ("b", 0))), ("rather", (("a", 3),)))

    def test_yes_with_the_ask(self):
        for ask in ((("a", 3),), (("a", 2),), (("c", 0), ("a", 1), ("b", 0)), (("b", 0), ("c", 1))):
            self.assertEqual(answer(BOUNDS, ask), ("yes", ask))

    def test_what_is_told_is_plain(self):
        for ask in ((("a", 3),), (("a", 9),), (("z", 0),)):
            word, pairs = answer(BOUNDS, ask)
            self.assertIs(type(word), str)
            self.assertEqual([type(part) for part in (pairs, pairs[0], pairs[0][1])], [tuple, tuple, int])


class IsAnswer(unittest.TestCase):
    def no(self, ask, *things):
        for thing in things:
            self.assertIs(is_answer(BOUNDS, ask, thing), False, repr(thing)[:80])

    def asks(self):
        for many in range(4):
            for kinds in itertools.permutations("abcd", many):
                for worths in itertools.product((0, 1, 5), repeat=many):
                    yield tuple(zip(kinds, worths))

    def test_the_answer_told_and_each_free_one(self):
        for ask in self.asks():
            self.assertIs(is_answer(BOUNDS, ask, answer(BOUNDS, ask)), True)
            for thing in free_answers(BOUNDS, ask):
                self.assertIs(is_answer(BOUNDS, ask, thing), True, (ask, thing))

    def test_no_other_one(self):
        pairs = [(kind, worth) for kind in "abd" for worth in (0, 1, 3)]
        things = [(word, told) for word in ("yes", "no", "rather", "bye")
                  for many in range(3) for told in itertools.product(pairs, repeat=many)]
        for ask in ((), (("a", 1),), (("a", 0),), (("d", 1),), (("b", 0), ("a", 0)), (("b", 3), ("a", 0)), (("a", 0), ("d", 1))):
            for thing in things:
                self.assertIs(is_answer(BOUNDS, ask, thing), thing in free_answers(BOUNDS, ask), (ask, thing))

    def test_a_word_that_is_not_due(self):
        self.no((("a", 1),), ("no", (("a", 1),)), ("rather", (("a", 1),)), ("rather", ()), ("no", ()), ("Yes", (("a", 1),)))
        self.no((("d", 1),), ("yes", (("d", 1),)), ("rather", (("d", 1),)))
        self.no((("a", 9),), ("yes", (("a", 9),)), ("no", (("a", 9),)), ("yes", (("a", 3),)), ("no", (("a", 3),)))
        self.no((("a", 9),), (None, (("a", 3),)), ([], (("a", 3),)), (("rather",), (("a", 3),)))

    def test_pairs_left_out_twice_more_exchanged(self):
        ask = (("a", 9), ("c", 7), ("b", 0))
        self.no(ask, ("rather", (("a", 3),)), ("rather", (("c", 1),)), ("rather", ()))
        self.no(ask, ("rather", (("a", 3), ("a", 3))), ("rather", (("a", 3), ("c", 1), ("c", 1))))
        self.no(ask, ("rather", (("a", 3), ("c", 1), ("b", 0))), ("rather", (("c", 1), ("a", 3))))
        ask = (("d", 9), ("e", 7), ("b", 0))
        self.no(ask, ("no", (("d", 9),)), ("no", (("e", 7), ("d", 9))), ("no", ask), ("no", (("d", 9), ("e", 7), ("e", 7))))
        ask = (("a", 1), ("b", 0))
        self.no(ask, ("yes", ()), ("yes", ask[:1]), ("yes", (("b", 0), ("a", 1))), ("yes", ask + ask[:1]))

    def test_worths_that_they_have_not(self):
        self.no((("a", 9),), ("rather", (("a", 9),)), ("rather", (("a", 0),)), ("rather", (("a", -1),)))
        self.no((("a", 9), ("c", 9)), ("rather", (("a", 3), ("c", 3))), ("rather", (("a", 0), ("c", 1))))
        self.no((("a", 1),), ("yes", (("a", 2),)))
        self.no((("d", 1),), ("no", (("d", 2),)), ("no", (("d", -1),)))

    def test_truths_for_numbers(self):
        self.no((("c", 9),), ("rather", (("c", True),)), ("rather", (("c", False),)))
        self.no((("b", 9),), ("rather", (("b", False),)))
        self.no((("a", 1),), ("yes", (("a", True),)))
        self.no((("b", 0),), ("yes", (("b", False),)))
        self.no((("d", 1),), ("no", (("d", True),)))

    def test_each_part_of_another_kind(self):
        for ask in ((), (("a", 1), ("b", 0)), (("c", 2), ("b", 1)), (("d", 1), ("e", 0), ("a", 9))):
            for told in free_answers(BOUNDS, ask):
                self.no(ask, *kin(told))

    def test_parts(self):
        ask = (("a", 1),)
        self.no(ask, ("yes",), ("yes", ask, ()), ["yes", ask], ("yes", list(ask)), ("yes", (["a", 1],)), ("yes", ("a", 1)))
        ask = (("a", 9),)
        self.no(ask, ("rather",), ("rather", (("a", 3),), ()), ["rather", (("a", 3),)], ("rather", [("a", 3)]))
        self.no(ask, ("rather", (["a", 3],)), ("rather", (("a", 3, 3),)), ("rather", (("a",),)), ("rather", ("a",)))

    def test_anything_else(self):
        for ask in ((), (("a", 1),), (("a", 9),), (("d", 1),), (("a", 9), ("d", 1))):
            self.no(ask, *STRANGE)
            for thing in STRANGE:
                self.no(ask, ("no", thing), ("rather", thing), ("rather", (thing,)), ("rather", ((thing, 3),)),
                        ("rather", (("a", thing),)), (thing, (("a", 3),)), (thing, ask))
                self.no(ask, ("no", (thing,)), ("yes", (thing,)), ("no", (("d", thing),)), ("yes", (("a", thing),)))


class Behind(unittest.TestCase):
    WISHES = (wish("b", (3, 1, 2), True), wish("a", (1, 0, 4)), wish("c", (7,)))
    PLAN = plan_of(WISHES)
    ASK = (("b", 3), ("a", 1), ("c", 7))

    def told(self, thing, plan=PLAN):
        return behind(self.WISHES, plan, thing)

    def none(self, *things):
        for thing in things:
            self.assertIsNone(self.told(thing), repr(thing)[:80])

    def test_yes_with_just_the_ask(self):
        self.assertEqual(self.told(("yes", self.ASK)), ("agreed", self.ASK))
        self.assertEqual(behind((), (), ("yes", ())), ("agreed", ()))
        self.assertEqual(behind(self.WISHES, (), ("yes", ())), ("agreed", ()))

    def test_yes_with_anything_else(self):
        self.none(("yes", ()), ("yes", self.ASK[:2]), ("yes", self.ASK[::-1]), ("yes", self.ASK + (("d", 1),)))
        self.none(("yes", (("b", 1), ("a", 1), ("c", 7))), ("yes", (("b", 3), ("a", True), ("c", 7))))
        self.none(("yes", list(self.ASK)), ("yes", (["b", 3], ("a", 1), ("c", 7))), ("yes",), ("yes", self.ASK, ()))
        self.none(*[("yes", thing) for thing in STRANGE])

    def test_no_of_some_pairs(self):
        self.assertEqual(self.told(("no", (("a", 1),))), ("plan", (("b", (3, 1, 2)), ("a", ()), ("c", (7,))), (("a", -1),)))
        self.assertEqual(self.told(("no", (("a", 1), ("c", 7)))),
                         ("plan", (("b", (3, 1, 2)), ("a", ()), ("c", ())), (("a", -1), ("c", -1))))

    def test_no_of_all_and_of_none(self):
        wishes = (wish("b", (3, 1)), wish("a", (1, 0)))
        self.assertEqual(behind(wishes, plan_of(wishes), ("no", (("b", 3), ("a", 1)))),
                         ("plan", (("b", ()), ("a", ())), (("a", -1), ("b", -1))))
        self.none(("no", ()), ("rather", ()))
        self.assertIsNone(behind((), (), ("no", ())))
        self.assertIsNone(behind((), (), ("rather", ())))

    def test_no_with_another_worth(self):
        self.none(("no", (("a", 0),)), ("no", (("a", 4),)), ("no", (("a", -1),)), ("no", (("a", 1), ("c", 1))))
        self.none(("no", (("a", True),)), ("no", (("a", "1"),)), ("no", (("a", None),)))

    def test_another_order_twice_and_not_asked(self):
        self.none(("no", (("c", 7), ("a", 1))), ("no", (("a", 1), ("a", 1))), ("no", (("a", 1), ("d", 1))), ("no", (("d", 1),)))
        self.none(("rather", (("c", 1), ("a", 4))), ("rather", (("a", 4), ("a", 4))), ("rather", (("a", 4), ("a", 0))))
        self.none(("rather", (("a", 4), ("d", 1))), ("rather", (("d", 1),)), ("rather", (("d", 1), ("a", 4))))

    def test_a_kind_that_is_wished_but_not_asked(self):
        wishes = (wish("a", (1, 2)), wish("b", (5, 6), False, ("a", 2)), wish("c", (1,)))
        plan = (("a", (1, 2)), ("b", (5, 6)), ("c", ()))
        for thing in (("no", (("b", 5),)), ("rather", (("b", 6),)), ("no", (("c", 1),)), ("rather", (("c", 2),))):
            self.assertIsNone(behind(wishes, plan, thing))

    def test_rather_with_a_worth_that_is_left(self):
        self.assertEqual(self.told(("rather", (("b", 2),))), ("plan", (("b", (2, 1)), ("a", (1, 0, 4)), ("c", (7,))), (("b", 3),)))
        self.assertEqual(self.told(("rather", (("b", 1), ("a", 4)))),
                         ("plan", (("b", (1, 2)), ("a", (4, 0)), ("c", (7,))), (("a", 1), ("b", 3))))

    def test_the_order_left_is_the_plans(self):
        wishes = (wish("b", (1, 2, 3, 4, 5)),)
        self.assertEqual(behind(wishes, (("b", (4, 2, 5, 1)),), ("rather", (("b", 5),))), ("plan", (("b", (5, 2, 1)),), (("b", 4),)))
        self.assertEqual(behind(wishes, (("b", (4, 2, 5, 1)),), ("rather", (("b", 9),))), ("plan", (("b", (2, 5, 1)),), (("b", 4),)))

    def test_rather_with_a_worth_that_is_not_left(self):
        plan = (("b", (1, 2)), ("a", (1, 0)), ("c", (7,)))
        self.assertEqual(self.told(("rather", (("b", 3),)), plan), ("plan", (("b", (2,)), ("a", (1, 0)), ("c", (7,))), (("b", 1),)))
        self.assertEqual(self.told(("rather", (("a", 4),)), plan), ("plan", (("b", (1, 2)), ("a", (0,)), ("c", (7,))), (("a", 1),)))

    def test_rather_with_a_worth_that_no_wish_has(self):
        for worth in (5, 0, 9999):
            self.assertEqual(self.told(("rather", (("b", worth),))),
                             ("plan", (("b", (1, 2)), ("a", (1, 0, 4)), ("c", (7,))), (("b", 3),)))
        self.assertEqual(self.told(("rather", (("c", 8),))), ("plan", (("b", (3, 1, 2)), ("a", (1, 0, 4)), ("c", ())), (("c", 7),)))

    def test_rather_with_the_asked_worth_and_beyond(self):
        self.none(("rather", (("b", 3),)), ("rather", (("a", 4), ("c", 7))), ("rather", (("b", 3), ("a", 4))))
        self.none(*[("rather", (("b", worth),)) for worth in STRANGE])
        self.none(("rather", (("b", True),)), ("rather", (("a", False),)), ("rather", (("a", True),)))

    def test_a_wish_that_must_be(self):
        self.assertEqual(self.told(("no", (("b", 3),))), ("failed", "b"))
        self.assertEqual(self.told(("no", (("b", 3), ("a", 1), ("c", 7)))), ("failed", "b"))
        plan = (("b", (2,)), ("a", (1,)), ("c", (7,)))
        self.assertEqual(self.told(("rather", (("b", 1),)), plan), ("failed", "b"))
        self.assertEqual(self.told(("rather", (("a", 4),)), plan), ("plan", (("b", (2,)), ("a", ()), ("c", (7,))), (("a", 1),)))

    def test_the_first_of_two_that_must_be(self):
        wishes = (wish("c", (1, 2)), wish("b", (1, 2), True), wish("a", (1,), True))
        plan = plan_of(wishes)
        self.assertEqual(behind(wishes, plan, ("no", (("c", 1), ("b", 1), ("a", 1)))), ("failed", "b"))
        self.assertEqual(behind(wishes, plan, ("no", (("c", 1), ("a", 1)))), ("failed", "a"))
        self.assertEqual(behind(wishes, plan, ("rather", (("b", 2), ("a", 2)))), ("failed", "a"))
        self.assertEqual(behind(wishes, (("c", (1,)), ("b", (2,)), ("a", (1,))), ("rather", (("b", 1), ("a", 2)))), ("failed", "b"))

    def test_a_wish_that_must_be_and_is_not_asked_does_not_fail(self):
        wishes = (wish("a", (1, 2)), wish("b", (5,), True, ("a", 1)))
        plan = plan_of(wishes)
        self.assertEqual(behind(wishes, plan, ("no", (("a", 1),))), ("plan", (("a", ()), ("b", (5,))), (("a", -1),)))
        self.assertEqual(behind(wishes, (("a", ()), ("b", (5,))), ("yes", ())), ("agreed", ()))

    def test_refused_is_rising(self):
        wishes = tuple([wish(kind, (1, 2)) for kind in "dacb"])
        ask = ask_of(wishes, plan_of(wishes))
        self.assertEqual(behind(wishes, plan_of(wishes), ("no", ask))[2], (("a", -1), ("b", -1), ("c", -1), ("d", -1)))
        rather = ("rather", tuple([(kind, 2) for kind in "dacb"]))
        self.assertEqual(behind(wishes, plan_of(wishes), rather)[2], (("a", 1), ("b", 1), ("c", 1), ("d", 1)))

    def test_each_part_of_another_kind(self):
        for thing in (("yes", self.ASK), ("no", (("a", 1), ("c", 7))), ("rather", (("b", 1), ("a", 0)))):
            self.assertIsNotNone(self.told(thing))
            self.none(*kin(thing))

    def test_anything_else(self):
        self.none(*STRANGE)
        for thing in STRANGE:
            self.none((thing, self.ASK), (thing, ()), ("no", thing), ("rather", thing), ("no", (thing,)), ("rather", (thing,)))
            self.none(("no", (("a", thing),)), ("no", ((thing, 1),)), ("rather", ((thing, 1),)), ("rather", (("a", 4), thing)))
        self.none(("bye", (("a", 1),)), ("No", (("a", 1),)), ("", ()), ("no", ("a", 1)), ("no", (("a", 1, 1),)), ("no", (("a",),)))

    def test_all_small_answers(self):
        wishes = (wish("a", (0, 1)), wish("b", (1, 0, 2)), wish("c", (2,)))
        plan = plan_of(wishes)
        ask = ask_of(wishes, plan)
        fit = [("yes", ask)]
        for many in range(1, 4):
            for some in itertools.combinations(ask, many):
                fit.append(("no", some))
                choices = [[(kind, worth) for worth in range(4) if worth != asked] for kind, asked in some]
                fit.extend([("rather", pairs) for pairs in itertools.product(*choices)])
        pairs = [(kind, worth) for kind in "abcd" for worth in range(4)]
        for word in ("yes", "no", "rather", "here"):
            for many in range(4):
                for told in itertools.product(pairs, repeat=many):
                    thing = (word, told)
                    self.assertEqual(behind(wishes, plan, thing) is not None, thing in fit, thing)


class WhatHolds(unittest.TestCase):
    """Points 2 and 3, of all free answers to all small wishes."""

    WISHES = [
        (wish("b", (3, 1, 2), True), wish("a", (1, 0), False, ("b", 1)), wish("c", (7, 2))),
        (wish("a", (1, 2)), wish("b", (1, 2), False, ("a", 2)), wish("c", (1, 2), True, ("b", 2))),
        (wish("c", (2, 0, 1)), wish("a", (0, 1, 2))),
        (),
    ]
    BOUNDS = [
        (), (("a", (2, 1)), ("b", (2, 4)), ("c", (2, 9))), (("c", (5, 6)), ("a", (5, 0))), (("a", (9, 8)), ("b", (1, 9)), ("c", (4,))),
    ]

    def follow(self, wishes, bounds, plan, refused):
        ask = ask_of(wishes, plan)
        self.assertFalse([pair for pair in ask if pair in refused or (pair[0], -1) in refused])
        for thing in free_answers(bounds, ask):
            self.assertIs(is_answer(bounds, ask, thing), True)
            came = behind(wishes, plan, thing)
            self.assertEqual(came, behind(wishes, plan, thing))
            if thing[0] == "yes":
                self.assertEqual(came, ("agreed", ask))
            elif came[0] == "plan":
                self.lessened(wishes, plan, came)
                self.follow(wishes, bounds, came[1], tuple(sorted(set(refused + came[2]))))
            else:
                self.assertIn(came, [("failed", one[0]) for one in wishes if one[2]])

    def lessened(self, wishes, plan, came):
        new = dict(came[1])
        self.assertEqual([kind for kind, left in came[1]], [one[0] for one in wishes])
        for kind, left in plan:
            self.assertLessEqual(set(new[kind]), set(left))
            self.assertEqual(len(set(new[kind])), len(new[kind]))
            gone = [(kind, worth) for worth in left if worth not in new[kind]]
            all_of_it = (kind, -1) in came[2]
            self.assertEqual(gone, [(kind, worth) for worth in left if all_of_it or (kind, worth) in came[2]])
        self.assertLess(sum([len(left) for kind, left in came[1]]), sum([len(left) for kind, left in plan]))

    def test_what_is_refused_is_not_asked_again(self):
        for wishes in self.WISHES:
            for bounds in self.BOUNDS:
                self.follow(wishes, bounds, plan_of(wishes), ())

    def test_refused_worths_make_the_same_plan(self):
        for wishes in self.WISHES:
            plan = plan_of(wishes)
            ask = ask_of(wishes, plan)
            for bounds in self.BOUNDS:
                for thing in free_answers(bounds, ask):
                    came = behind(wishes, plan, thing)
                    if came[0] == "plan":
                        again = plan_of(wishes, refused=came[2])
                        self.assertEqual([(kind, sorted(left)) for kind, left in came[1]], [(kind, sorted(left)) for kind, left in again])

    def test_nothing_handed_in_is_changed(self):
        wishes = (wish("b", (3, 1, 2), True), wish("a", (1, 0)))
        plan = plan_of(wishes)
        things = [("rather", (("b", 2), ("a", 0))), ["rather", [["b", 2], ["a", 0]]], {"rather": [("b", 2)]}, ("no", [("a", 1)])]
        before = repr((wishes, plan, things, BOUNDS))
        for thing in things:
            behind(wishes, plan, thing)
            is_answer(BOUNDS, (("b", 2), ("a", 9)), thing)
        self.assertEqual(repr((wishes, plan, things, BOUNDS)), before)

    def test_what_was_told_stays(self):
        wishes = (wish("b", (3, 1, 2), True), wish("a", (1, 0)))
        plan = plan_of(wishes)
        first = behind(wishes, plan, ("rather", (("b", 2),)))
        shown = repr(first)
        behind(wishes, first[1], ("no", (("a", 1),)))
        self.assertEqual(repr(first), shown)
        self.assertEqual(repr(behind(wishes, plan, ("rather", (("b", 2),)))), shown)


if __name__ == "__main__":
    unittest.main()
