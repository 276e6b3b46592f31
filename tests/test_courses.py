import copy
import unittest

from crossedwishes.answers import answer, behind
from crossedwishes.courses import comes_to, course, longest
from crossedwishes.wishes import ask_of, plan_of
from tests.things import SMALL, STRANGE, all_courses, kin, wish

WISHES = (wish("size", (3, 1, 2), True), wish("echo", (1,), False, ("size", 1)))
BOUNDS = (("size", (1, 2)), ("echo", (1,)))

# Two ways from the first ask on: the bounds may tell 1 or 2.
FIRST = ((("size", 3),), ("rather", (("size", 1),)))
OTHER = ((("size", 3),), ("rather", (("size", 2),)))
ONE = ((("size", 1), ("echo", 1)), ("yes", (("size", 1), ("echo", 1))))
TWO = ((("size", 2),), ("yes", (("size", 2),)))


def worths_of(wishes):
    return sum([len(one[1]) for one in wishes])


class Course(unittest.TestCase):
    def test_agreed(self):
        self.assertEqual(course(WISHES, BOUNDS), ("agreed", (("size", 1), ("echo", 1)), [FIRST, ONE]))

    def test_agreed_at_once(self):
        ask = (("a", 1), ("b", 0))
        told = course((wish("a"), wish("b", (0, 1))), (("b", (1, 0)), ("a", (1,))))
        self.assertEqual(told, ("agreed", ask, [(ask, ("yes", ask))]))

    def test_wishes_of_none(self):
        for bounds in ((), BOUNDS):
            self.assertEqual(course((), bounds), ("agreed", (), [((), ("yes", ()))]))

    def test_all_kinds_refused(self):
        ask = (("a", 1), ("b", 1))
        self.assertEqual(course((wish("a"), wish("b")), ()), ("agreed", (), [(ask, ("no", ask)), ((), ("yes", ()))]))

    def test_failed_behind_no(self):
        ask = (("a", 1), ("b", 1), ("c", 1))
        told = course((wish("a"), wish("b", must=True), wish("c", must=True)), ())
        self.assertEqual(told, ("failed", "b", [(ask, ("no", ask))]))

    def test_failed_behind_rather(self):
        steps = [((("a", 1),), ("rather", (("a", 9),))), ((("a", 2),), ("rather", (("a", 9),)))]
        self.assertEqual(course((wish("a", (1, 2), True),), (("a", (9, 8)),)), ("failed", "a", steps))

    def test_what_the_wishes_need(self):
        wishes = (wish("a", (1, 2)), wish("b", (5,), True, ("a", 2)))
        self.assertEqual(course(wishes, (("a", (1, 2)),))[:2], ("agreed", (("a", 1),)))
        self.assertEqual(course(wishes, (("a", (2,)),))[:2], ("failed", "b"))

    def test_each_worth_refused_one_by_one(self):
        wishes = (wish("a", (1, 2, 3, 4, 5, 6)), wish("b", (7,), False, ("a", 9)))
        told = course(wishes, (("a", (9,)),))
        asks = [(("a", worth),) for worth in range(1, 7)] + [()]
        self.assertEqual(told[:2], ("agreed", ()))
        self.assertEqual([ask for ask, said in told[2]], asks)

    def test_as_many_asks_as_worths_and_one_more(self):
        wishes = tuple([wish(kind, (1, 2, 3, 4, 5, 6), False, needs)
                        for kind, needs in (("a", None), ("b", None), ("c", None), ("d", ("a", 3)), ("e", ("d", 9)), ("f", None))])
        for bounds in ((), (("a", (9,)),), tuple([(kind, (9, 8)) for kind in "abcdef"])):
            self.assertLessEqual(len(course(wishes, bounds)[2]), worths_of(wishes) + 1)
        for wishes, bounds in SMALL:
            self.assertLessEqual(len(course(wishes, bounds)[2]), worths_of(wishes) + 1)

    def test_step_by_step(self):
        for wishes, bounds in SMALL:
            word, what, steps = course(wishes, bounds)
            plan = plan_of(wishes)
            for ask, said in steps[:-1]:
                self.assertEqual((ask, said), (ask_of(wishes, plan), answer(bounds, ask)))
                came = behind(wishes, plan, said)
                self.assertEqual(came[0], "plan")
                plan = came[1]
            ask, said = steps[-1]
            self.assertEqual((ask, said), (ask_of(wishes, plan), answer(bounds, ask)))
            self.assertEqual(behind(wishes, plan, said), (word, what))
            self.assertEqual(comes_to(wishes, bounds, steps), (word, what))


class ComesTo(unittest.TestCase):
    def none(self, *things, wishes=WISHES, bounds=BOUNDS):
        for thing in things:
            self.assertIsNone(comes_to(wishes, bounds, thing), repr(thing)[:80])

    def test_courses_by_free_answers(self):
        self.assertEqual(comes_to(WISHES, BOUNDS, [FIRST, ONE]), ("agreed", (("size", 1), ("echo", 1))))
        self.assertEqual(comes_to(WISHES, BOUNDS, [OTHER, TWO]), ("agreed", (("size", 2),)))
        many = 0
        for wishes, bounds in SMALL:
            for steps, came in all_courses(wishes, bounds):
                self.assertEqual(comes_to(wishes, bounds, steps), came)
                many += 1
        self.assertGreater(many, 100)

    def test_failed(self):
        wishes = (wish("a", (1, 2), True),)
        one = ((("a", 1),), ("rather", (("a", 8),)))
        two = ((("a", 2),), ("rather", (("a", 9),)))
        self.assertEqual(comes_to(wishes, (("a", (9, 8)),), [one, two]), ("failed", "a"))
        self.assertEqual(comes_to(wishes, (), [((("a", 1),), ("no", (("a", 1),)))]), ("failed", "a"))

    def test_parts_of_courses(self):
        self.none([], [FIRST], [ONE], [OTHER], [TWO])
        for wishes, bounds in SMALL:
            for steps, came in all_courses(wishes, bounds):
                for at in range(len(steps)):
                    self.none(steps[:at], wishes=wishes, bounds=bounds)
                    self.none(steps[at + 1:], wishes=wishes, bounds=bounds)

    def test_a_step_more(self):
        self.none([FIRST, ONE, ONE], [FIRST, FIRST, ONE], [OTHER, TWO, ((), ("yes", ()))], [FIRST, ONE, None], [FIRST, ONE, ()])
        for wishes, bounds in SMALL:
            for steps, came in all_courses(wishes, bounds):
                self.none(steps + steps[-1:], steps + steps, steps + [((), ("yes", ()))], wishes=wishes, bounds=bounds)

    def test_a_step_otherwise(self):
        self.none([FIRST, TWO], [OTHER, ONE], [ONE, FIRST])
        self.none([((("size", 3),), ("rather", (("size", 3),))), ONE], [((("size", 3),), ("rather", (("size", 4),))), ONE])
        self.none([((("size", 3),), ("yes", (("size", 3),)))], [((("size", 3),), ("no", (("size", 3),)))])
        self.none([FIRST, ((("size", 1),), ("yes", (("size", 1),)))], [FIRST, (ONE[0], ("yes", (("size", 1),)))])
        self.none([FIRST, ((("echo", 1), ("size", 1)), ("yes", (("echo", 1), ("size", 1))))])
        self.none([FIRST, (ONE[0], ("rather", (("size", 2),)))])

    def test_courses_of_others(self):
        for wishes, bounds in SMALL:
            right = [steps for steps, came in all_courses(wishes, bounds)]
            for others, limits in SMALL:
                for steps, came in all_courses(others, limits)[:9]:
                    self.assertEqual(comes_to(wishes, bounds, steps) is not None, steps in right)

    def test_each_part_of_another_kind(self):
        self.none(*kin([FIRST, ONE]))
        self.none(*kin([OTHER, TWO]))
        self.none(*kin([((), ("yes", ()))]), wishes=())
        ask = (("a", 1), ("b", 0))
        wishes = (wish("a"), wish("b", (0,), True))
        self.none(*kin([(ask, ("no", ask))]), wishes=wishes, bounds=())

    def test_truths_for_numbers(self):
        wishes = (wish("a", (1, 0), True),)
        self.none([((("a", True),), ("yes", (("a", 1),)))], [((("a", 1),), ("yes", (("a", True),)))],
                  wishes=wishes, bounds=(("a", (1,)),))
        self.none([((("a", 1),), ("rather", (("a", False),))), ((("a", 0),), ("yes", (("a", 0),)))],
                  wishes=wishes, bounds=(("a", (0,)),))

    def test_anything_else(self):
        self.none(*STRANGE)
        for wishes, bounds in ((WISHES, BOUNDS), ((), ()), ((wish("a", must=True),), ())):
            for thing in STRANGE:
                ask = ask_of(wishes, plan_of(wishes))
                self.none(thing, [thing], [FIRST, thing], [(ask, thing)], [(thing, answer(bounds, ask))], [(ask, ("yes", thing))],
                          [(ask, (thing, ask))], [(ask, answer(bounds, ask), thing)], wishes=wishes, bounds=bounds)


class Longest(unittest.TestCase):
    def test_wishes_of_none(self):
        self.assertEqual(longest((), ()), 1)
        self.assertEqual(longest((), BOUNDS), 1)

    def test_each_worth_refused_one_by_one(self):
        self.assertEqual(longest((wish("a", (1, 2, 3)),), (("a", (9,)),)), 4)
        self.assertEqual(longest((wish("a", (1, 2, 3), True),), (("a", (9, 8)),)), 3)
        self.assertEqual(longest((wish("a", (1, 2, 3, 4, 5, 6)),), (("a", (9,)),)), 7)
        wishes = (wish("a", (1, 2)), wish("b", (1, 2, 3)))
        self.assertEqual(longest(wishes, (("a", (9,)), ("b", (9,)))), 4)

    def test_a_course_of_all_worths_and_one(self):
        # The second wish is asked only with the last worth of the first, which is then within the bounds.
        wishes = (wish("a", (1, 2, 3)), wish("b", (4, 5), False, ("a", 3)))
        self.assertEqual(longest(wishes, (("a", (9, 3)), ("b", (6,)))), 5)

    def test_the_longest_of_unlike_ones(self):
        self.assertEqual(longest((wish("a", (1, 2, 3, 4)),), (("a", (3, 9)),)), 3)
        self.assertEqual(longest((wish("a", (1, 2, 3, 4)),), (("a", (9, 4)),)), 4)
        self.assertEqual(len(course((wish("a", (1, 2, 3, 4)),), (("a", (3, 9)),))[2]), 2)

    def test_all_small_ones(self):
        for wishes, bounds in SMALL:
            told = longest(wishes, bounds)
            self.assertIs(type(told), int)
            self.assertEqual(told, max([len(steps) for steps, came in all_courses(wishes, bounds)]))
            self.assertLessEqual(told, worths_of(wishes) + 1)

    def test_many_courses(self):
        wishes = (wish("a", (1, 2, 3, 4, 5)), wish("b", (1, 2, 3)))
        bounds = (("a", (7, 8, 9)), ("b", (7, 3)))
        found = all_courses(wishes, bounds)
        self.assertTrue(500 < len(found) <= 3000, len(found))
        self.assertEqual(longest(wishes, bounds), max([len(steps) for steps, came in found]))


class WhatStays(unittest.TestCase):
    def test_nothing_handed_in_is_changed(self):
        things = [[FIRST, ONE], [list(FIRST), list(ONE)], [FIRST, [["a"], {"a": [1]}]], {"a": [FIRST]}]
        before = repr((WISHES, BOUNDS, things))
        for thing in things:
            comes_to(WISHES, BOUNDS, thing)
        course(WISHES, BOUNDS)
        longest(WISHES, BOUNDS)
        self.assertEqual(repr((WISHES, BOUNDS, things)), before)

    def test_the_same_again_behind_changes(self):
        for wishes, bounds in SMALL:
            told = course(wishes, bounds)
            kept = copy.deepcopy(told)
            self.assertIs(type(told), tuple)
            self.assertIs(type(told[2]), list)
            told[2].reverse()
            told[2].append(None)
            self.assertEqual(course(wishes, bounds), kept)
            told[2].clear()
            self.assertEqual(course(wishes, bounds), kept)
            self.assertEqual(comes_to(wishes, bounds, kept[2]), kept[:2])
            self.assertEqual(longest(wishes, bounds), longest(wishes, bounds))


if __name__ == "__main__":
    unittest.main()
