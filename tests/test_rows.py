import unittest

from crossedwishes.rows import are_rows, told_rows
from tests.things import ACTS, STRANGE, TESTS, kin

WORDS = "open close tick wish ask yes no rather bye here there".split()

ROW = ("ask", ("closed", "not own"), ("turn", "end bye"))


class ToldRows(unittest.TestCase):
    def test_they_are_rows(self):
        rows = told_rows()
        self.assertIs(type(rows), tuple)
        self.assertIs(are_rows(rows), True)
        self.assertLessEqual(len(rows), 60)

    def test_the_same_each_time(self):
        rows = told_rows()
        self.assertEqual(repr(told_rows()), repr(rows))
        are_rows(rows)
        self.assertEqual(repr(told_rows()), repr(rows))

    def test_of_plain_kinds(self):
        for word, tests, acts in told_rows():
            self.assertEqual([type(part) for part in (word, tests, acts)], [str, tuple, tuple])
            self.assertEqual({type(part) for part in tests + acts} - {str}, set())


class AreRows(unittest.TestCase):
    def yes(self, *things):
        for thing in things:
            self.assertIs(are_rows(thing), True, repr(thing)[:80])

    def no(self, *things):
        for thing in things:
            self.assertIs(are_rows(thing), False, repr(thing)[:80])

    def test_none_to_sixty(self):
        self.yes((), (ROW,), (ROW,) * 59, (ROW,) * 60)
        self.no((ROW,) * 61, (ROW,) * 1000)

    def test_words(self):
        self.yes(*[((word, (), ()),) for word in WORDS])
        self.no(*[((word, (), ()),) for word in ("", "Open", "opened", "not ask", "closed", "ask ", "end bye", *STRANGE)])

    def test_tests(self):
        self.yes(*[(("ask", (test,), ()),) for test in TESTS])
        self.yes(*[(("tick", ("not " + test,), ()),) for test in TESTS])
        self.yes((("ask", tuple(TESTS[:9]), ()),), (("ask", ("not own", "own", "own"), ()),))
        for test in ("", "not ", "not", "not not own", "not  own", "notown", "own ", " own", "Own", "not Own", "NOT own", "own not ",
                     "asking", "turn", "on", "not on", "not ask", "ask", *STRANGE):
            self.no((("ask", (test,), ()),), (("ask", ("own", test), ()),))

    def test_acts(self):
        self.yes(*[(("ask", (), (act,)),) for act in ACTS])
        self.yes((("ask", (), tuple(ACTS[:9])),), (("ask", (), ("on", "on", "ask", "ask")),))
        for act in ("", "end", "end ", "end open", "end wish", "end  bye", "bye end", "not on", "On", "on ", "closed", "give ", "open",
                    "closing", "end on", *STRANGE):
            self.no((("ask", (), (act,)),), (("ask", (), ("ask", act)),))

    def test_nine_tests_and_nine_acts(self):
        self.yes((("ask", ("own",) * 9, ("ask",) * 9),))
        self.no((("ask", ("own",) * 10, ()),), (("ask", (), ("ask",) * 10),))

    def test_one_wrong_row_among_others(self):
        for wrong in (("ask", (), ("off",)), ("ask", ("off",), ()), ("off", (), ()), None, (), ("ask", ())):
            self.no((wrong, ROW), (ROW, wrong), (ROW,) * 59 + (wrong,))

    def test_parts(self):
        self.no((ROW[:2],), (ROW + ((),),), (list(ROW),), ROW, [ROW], ((ROW,),), {ROW: 1})
        self.no((("ask", "own", ()),), (("ask", (), "ask"),), (("ask", ["own"], ()),), (("ask", (), ["ask"]),))
        self.no((("ask", None, ()),), (("ask", (), None),), (("ask", {}, {}),), (("ask", "", ""),))

    def test_each_part_of_another_kind(self):
        self.no(*kin((ROW, ("wish", (), ()), ("bye", ("not mine",), ("on",)))))

    def test_anything_else(self):
        self.no(*STRANGE)
        for thing in STRANGE:
            self.no((thing,), (ROW, thing), ((thing, (), ()),), (("ask", thing, ()),), (("ask", (), thing),), ((thing,) * 3,))

    def test_nothing_handed_in_is_changed(self):
        things = [[list(ROW)], (("ask", ["own"], {"a": 1}),), told_rows(), {"a": [ROW]}]
        before = repr(things)
        for thing in things:
            self.assertIs(are_rows(thing), are_rows(thing))
        self.assertEqual(repr(things), before)


if __name__ == "__main__":
    unittest.main()
