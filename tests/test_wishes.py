import itertools
import unittest

from crossedwishes.wishes import are_bounds, are_wishes, ask_of, is_book, is_name, is_wish, is_worth, plan_of
from tests.things import STRANGE, kin, wish

SIX = (0, 1, 2, 3, 4, 9999)
SEVEN = (0, 1, 2, 3, 4, 5, 6)
PLAIN = ("size", (3, 1, 2), False, None)
KINDS = "abcdefghi"


class Truths(unittest.TestCase):
    def yes(self, asked, *things):
        for thing in things:
            self.assertIs(asked(thing), True, repr(thing)[:80])

    def no(self, asked, *things):
        for thing in things:
            self.assertIs(asked(thing), False, repr(thing)[:80])


class Names(Truths):
    def test_one_to_eight_small_letters(self):
        self.yes(is_name, "a", "z", "m", "az", "abcdefgh", "zzzzzzzz", "aa", "type", "none")

    def test_none_and_nine(self):
        self.no(is_name, "", "abcdefghi", "a" * 20000)

    def test_other_signs(self):
        self.no(is_name, "A", "Z", "aB", "Ba", "a1", "1a", "7", "a b", " a", "a ", "a\n", "\na", "\n", " ", "a_b", "a-b")
        self.no(is_name, "`", "{", "a`", "{z", "@", "[", "aaaaaaa`", "~", "a;")

    def test_anything_else(self):
        self.no(is_name, *STRANGE)
        self.no(is_name, 0, 1, ("a",), ["a"], {"a": "a"}, ("a", "b"))


class Worths(Truths):
    def test_nought_to_the_greatest(self):
        self.yes(is_worth, 0, 1, 2, 500, 9998, 9999)

    def test_beyond(self):
        self.no(is_worth, -1, 10000, -9999, 10 ** 99, 10 ** 100 - 1, -(10 ** 99))

    def test_truths_and_texts(self):
        self.no(is_worth, True, False, "0", "1", "9999", "", None)

    def test_anything_else(self):
        self.no(is_worth, *STRANGE)
        self.no(is_worth, (0,), [0], {0: 0}, (), [], {})


class Wish(Truths):
    def test_one_and_six_worths(self):
        self.yes(is_wish, wish("a", (0,)), wish("a", SIX), wish("abcdefgh", (9999, 0)), wish("z", (3, 1, 2), True))

    def test_none_and_seven_worths(self):
        self.no(is_wish, wish("a", ()), wish("a", SEVEN))

    def test_unfit_worths(self):
        self.no(is_wish, wish("a", (1, 1)), wish("a", (1, 2, 1)), wish("a", (-1,)), wish("a", (10000,)))
        self.no(is_wish, wish("a", (True,)), wish("a", (False, 2)), wish("a", (1, True)), wish("a", (0, False)))
        self.no(is_wish, wish("a", ("1",)), wish("a", (None,)), wish("a", ([],)), wish("a", ({},)), wish("a", ((),)))
        self.no(is_wish, wish("a", [1]), wish("a", 1), wish("a", "1"), wish("a", None), wish("a", {1: 1}))

    def test_must_is_a_truth(self):
        self.yes(is_wish, wish("a", must=True), wish("a", must=False))
        self.no(is_wish, *[wish("a", must=must) for must in (0, 1, None, "", "must", (), [], {}, "True")])

    def test_needs_of_any_kind_by_itself(self):
        self.yes(is_wish, wish("a", needs=("b", 0)), wish("a", needs=("a", 1)), wish("a", needs=("abcdefgh", 9999)))

    def test_unfit_needs(self):
        for needs in (("b",), ("b", 1, 2), (), ["b", 1], ("b", True), ("b", False), ("b", -1), ("b", 10000),
                      ("B", 1), ("", 1), (1, "b"), ("b", "1"), ("b", (1,)), (("b", 1),), "b", "b1", 0, 1, True, False,
                      {}, {"b": 1}, ("b", None), (None, None), ([], 1), ("b", [])):
            self.no(is_wish, wish("a", needs=needs))

    def test_kind_is_a_name(self):
        for kind in STRANGE + ["abcdefghi", "a1", ["a"], ("a",)]:
            self.no(is_wish, wish(kind))

    def test_parts(self):
        self.no(is_wish, (), ("a",), ("a", (1,)), ("a", (1,), True), ("a", (1,), True, None, None), list(wish("a")))

    def test_each_part_of_another_kind(self):
        for thing in (wish("a", (0, 1), True, ("b", 1)), wish("a", (1, 0), False, ("b", 0))):
            self.yes(is_wish, thing)
            # None as needs is a wish too.
            self.no(is_wish, *[other for other in kin(thing) if other != thing[:3] + (None,)])

    def test_anything_else(self):
        self.no(is_wish, *STRANGE)


class Wishes(Truths):
    def test_none_and_six(self):
        self.yes(are_wishes, (), (PLAIN,), tuple([wish(kind) for kind in KINDS[:6]]))

    def test_seven(self):
        self.no(are_wishes, tuple([wish(kind) for kind in KINDS[:7]]))

    def test_a_kind_twice(self):
        self.no(are_wishes, (wish("a"), wish("a")), (wish("a"), wish("b"), wish("a", (2,))))

    def test_needs_of_a_kind_ahead(self):
        self.yes(are_wishes, (wish("a"), wish("b", needs=("a", 1))))
        self.yes(are_wishes, (wish("b"), wish("c"), wish("a", needs=("b", 1))))
        self.yes(are_wishes, (wish("a"), wish("b", needs=("a", 1)), wish("c", needs=("b", 1))))
        # Whether the worth is one that is wished isn't asked.
        self.yes(are_wishes, (wish("a", (1,)), wish("b", needs=("a", 9))))

    def test_needs_of_another_kind(self):
        self.no(are_wishes, (wish("a", needs=("a", 1)),))
        self.no(are_wishes, (wish("a"), wish("b", needs=("b", 1))))
        self.no(are_wishes, (wish("a", needs=("b", 1)), wish("b")))
        self.no(are_wishes, (wish("a"), wish("b", needs=("c", 1)), wish("c")))
        self.no(are_wishes, (wish("a"), wish("b", needs=("d", 1))))
        self.no(are_wishes, (wish("a", needs=("d", 1)),))

    def test_each_part_of_another_kind(self):
        thing = (wish("a", (0, 1), True), wish("b", (1,), False, ("a", 1)))
        self.yes(are_wishes, thing)
        free = (thing[0], wish("b", (1,), False))
        self.no(are_wishes, *[other for other in kin(thing) if other != free])

    def test_anything_else(self):
        self.no(are_wishes, *STRANGE)
        self.no(are_wishes, PLAIN, [PLAIN], [], {}, {"a": PLAIN}, (PLAIN, None), (PLAIN, ()), ([],), "", None, 0)
        for thing in STRANGE:
            self.no(are_wishes, (PLAIN, thing), (thing, PLAIN))


class Bounds(Truths):
    def test_none_and_eight(self):
        self.yes(are_bounds, (), (("a", (1,)),), (("a", SIX), ("b", (2, 1))), tuple([(kind, (1,)) for kind in KINDS[:8]]))

    def test_nine(self):
        self.no(are_bounds, tuple([(kind, (1,)) for kind in KINDS]))

    def test_twice(self):
        self.no(are_bounds, (("a", (1,)), ("a", (1,))), (("a", (1,)), ("b", (1,)), ("a", (2,))))
        self.no(are_bounds, (("a", (1, 1)),), (("a", (1, 2, 1)),))

    def test_unfit_worths(self):
        self.no(are_bounds, (("a", SEVEN),), (("a", ()),), (("a", (-1,)),), (("a", (10000,)),), (("a", (True,)),))
        self.no(are_bounds, (("a", 1),), (("a", [1]),), (("a", None),))

    def test_parts(self):
        self.no(are_bounds, (("a",),), (("a", (1,), True),), ((),), (["a", (1,)],), [("a", (1,))], ("a", (1,)))

    def test_each_part_of_another_kind(self):
        thing = (("a", (0, 1)), ("b", (1,)))
        self.yes(are_bounds, thing)
        self.no(are_bounds, *kin(thing))

    def test_exchanged(self):
        self.no(are_bounds, (PLAIN,))
        self.no(are_wishes, (("a", (1,)),))

    def test_anything_else(self):
        self.no(are_bounds, *STRANGE)
        for thing in STRANGE:
            self.no(are_bounds, (("b", (1,)), thing), (thing, ("b", (1,))), ((thing, (1,)),), (("a", thing),))


class Book(Truths):
    def test_wishes_and_bounds(self):
        self.yes(is_book, ((), ()), ((PLAIN,), ()), ((), (("a", (1,)),)), ((PLAIN,), (("a", (1,)), ("size", (2,)))))

    def test_exchanged(self):
        self.no(is_book, ((("a", (1,)),), (PLAIN,)), ((), (PLAIN,)), ((("a", (1,)),), ()))

    def test_parts(self):
        self.no(is_book, (), ((PLAIN,),), ((PLAIN,), (), ()), [(PLAIN,), ()], ([PLAIN], ()), ((), []), (None, ()), ((), None))

    def test_each_part_of_another_kind(self):
        thing = ((wish("a", (0, 1), True),), (("b", (1, 0)),))
        self.yes(is_book, thing)
        self.no(is_book, *kin(thing))

    def test_anything_else(self):
        self.no(is_book, *STRANGE)
        for thing in STRANGE:
            self.no(is_book, (thing, ()), ((), thing))


class Plans(unittest.TestCase):
    WISHES = (wish("b", (3, 1, 2), True), wish("a", (5, 4), False, ("b", 1)), wish("c", (0,)))

    def test_nothing_refused(self):
        plan = (("b", (3, 1, 2)), ("a", (5, 4)), ("c", (0,)))
        self.assertEqual(plan_of(self.WISHES), plan)
        self.assertEqual(plan_of(self.WISHES, refused=()), plan)
        self.assertEqual(plan_of(()), ())
        self.assertEqual(plan_of((), refused=(("a", 1),)), ())

    def test_refused_is_handed_in_by_name(self):
        with self.assertRaises(TypeError):
            plan_of(self.WISHES, ())

    def left(self, *refused):
        return [left for kind, left in plan_of(self.WISHES, refused=tuple(sorted(refused)))]

    def test_worths_that_the_wish_has(self):
        self.assertEqual(self.left(("b", 1)), [(3, 2), (5, 4), (0,)])
        self.assertEqual(self.left(("b", 3)), [(1, 2), (5, 4), (0,)])
        self.assertEqual(self.left(("b", 3), ("a", 4)), [(1, 2), (5,), (0,)])
        self.assertEqual(self.left(("b", 3), ("b", 1)), [(2,), (5, 4), (0,)])

    def test_worths_and_kinds_that_it_has_not(self):
        whole = [(3, 1, 2), (5, 4), (0,)]
        self.assertEqual(self.left(("b", 5), ("a", 3), ("c", 1)), whole)
        self.assertEqual(self.left(("d", 3), ("e", -1), ("bb", 3)), whole)

    def test_all_of_a_kind(self):
        self.assertEqual(self.left(("b", -1)), [(), (5, 4), (0,)])
        self.assertEqual(self.left(("c", -1)), [(3, 1, 2), (5, 4), ()])
        self.assertEqual(self.left(("b", -1), ("b", 3)), [(), (5, 4), (0,)])
        self.assertEqual(self.left(("a", -1), ("b", -1), ("c", -1)), [(), (), ()])

    def test_nothing_left_stays_in_the_plan(self):
        self.assertEqual(plan_of(self.WISHES, refused=(("a", 4), ("a", 5), ("c", 0))),
                         (("b", (3, 1, 2)), ("a", ()), ("c", ())))

    def test_what_is_told_is_plain(self):
        for kind, left in plan_of(self.WISHES, refused=(("b", 1),)):
            self.assertIs(type(kind), str)
            self.assertIs(type(left), tuple)
        self.assertIs(type(plan_of(self.WISHES)), tuple)


class Asks(unittest.TestCase):
    def test_first_worths(self):
        wishes = (wish("b", (3, 1)), wish("a", (5, 4), True))
        self.assertEqual(ask_of(wishes, plan_of(wishes)), (("b", 3), ("a", 5)))
        self.assertEqual(ask_of((), ()), ())

    def test_the_order_is_the_plans(self):
        wishes = (wish("b", (3, 1, 2)), wish("a", (5, 4)))
        self.assertEqual(ask_of(wishes, (("b", (2, 3)), ("a", (4, 5)))), (("b", 2), ("a", 4)))
        self.assertEqual(ask_of(wishes, (("b", (1,)), ("a", (5,)))), (("b", 1), ("a", 5)))

    def test_needs_that_stand(self):
        wishes = (wish("b", (3, 1)), wish("a", (5,), False, ("b", 3)))
        self.assertEqual(ask_of(wishes, plan_of(wishes)), (("b", 3), ("a", 5)))

    def test_needs_with_another_worth(self):
        wishes = (wish("b", (3, 1)), wish("a", (5,), False, ("b", 1)), wish("c", (7,)))
        self.assertEqual(ask_of(wishes, plan_of(wishes)), (("b", 3), ("c", 7)))
        self.assertEqual(ask_of(wishes, (("b", (1, 3)), ("a", (5,)), ("c", (7,)))), (("b", 1), ("a", 5), ("c", 7)))

    def test_needs_whose_kind_is_not_asked(self):
        wishes = (wish("b", (3,)), wish("a", (5,), False, ("b", 3)))
        self.assertEqual(ask_of(wishes, (("b", ()), ("a", (5,)))), ())
        unknown = (wish("b", (3,)), wish("a", (5,), False, ("b", 8)))
        self.assertEqual(ask_of(unknown, plan_of(unknown)), (("b", 3),))

    def test_needs_one_behind_another(self):
        wishes = (wish("a", (1, 2)), wish("b", (1,), False, ("a", 1)), wish("c", (1,), False, ("b", 1)))
        self.assertEqual(ask_of(wishes, plan_of(wishes)), (("a", 1), ("b", 1), ("c", 1)))
        self.assertEqual(ask_of(wishes, (("a", (2, 1)), ("b", (1,)), ("c", (1,)))), (("a", 2),))

    def test_needs_of_one_that_must_be(self):
        wishes = (wish("a", (1, 2)), wish("b", (1,), True, ("a", 2)))
        self.assertEqual(ask_of(wishes, plan_of(wishes)), (("a", 1),))

    def test_nothing_left(self):
        wishes = (wish("a", (1,)), wish("b", (2,)), wish("c", (0,)))
        self.assertEqual(ask_of(wishes, (("a", ()), ("b", (2,)), ("c", (0,)))), (("b", 2), ("c", 0)))
        self.assertEqual(ask_of(wishes, (("a", (1,)), ("b", ()), ("c", ()))), (("a", 1),))
        self.assertEqual(ask_of(wishes, (("a", ()), ("b", ()), ("c", ()))), ())

    def test_the_plan_of_nothing(self):
        self.assertEqual(ask_of((wish("a", (1,), True), wish("b", (2,))), ()), ())

    def test_what_is_told_is_plain(self):
        wishes = (wish("a", (1,)), wish("b", (0,)))
        ask = ask_of(wishes, plan_of(wishes))
        self.assertIs(type(ask), tuple)
        for pair in ask:
            self.assertEqual([type(pair), type(pair[0]), type(pair[1])], [tuple, str, int])

    def test_what_is_refused_is_not_asked(self):
        wishes = (wish("a", (1, 0)), wish("b", (1, 0), False, ("a", 0)))
        pairs = [(kind, worth) for kind in "ab" for worth in (-1, 0, 1)]
        for many in range(len(pairs) + 1):
            for refused in itertools.combinations(pairs, many):
                for kind, worth in ask_of(wishes, plan_of(wishes, refused=refused)):
                    self.assertNotIn((kind, worth), refused)
                    self.assertNotIn((kind, -1), refused)


if __name__ == "__main__":
    unittest.main()
