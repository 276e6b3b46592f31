"""Points 23 to 25: how books, letters, deeds, talks and wires are written."""

import random
import unittest

from crossedwishes.texts import show_book, show_deed, show_letter, show_talk, show_wire
from crossedwishes.wire import Wire
from tests.things import BOOKS, SMALL_WISHES, lead, part, wish

MANY = (
    wish("size", (3, 1, 2), True), wish("echo"), wish("ink", (0, 9999), False, ("size", 2)),
    wish("must", (10,), True, ("echo", 1)), wish("if", (1, 2, 3, 4, 5, 6), False, ("must", 10)), wish("bounds", (7,), True, ("if", 0)),
)


class Books(unittest.TestCase):
    def test_of_none(self):
        self.assertEqual(show_book(((), ())), "wishes\nbounds\n")

    def test_wishes_alone(self):
        self.assertEqual(show_book((MANY, ())), (
            "wishes\nsize 3,1,2 must\necho 1\nink 0,9999 if size 2\nmust 10 must if echo 1\n"
            "if 1,2,3,4,5,6 if must 10\nbounds 7 must if if 0\nbounds\n"
        ))

    def test_bounds_alone(self):
        bounds = (("size", (3,)), ("wishes", (0, 9999)), ("must", (4, 3, 2, 1, 0, 10)))
        self.assertEqual(show_book(((), bounds)), "wishes\nbounds\nsize 3\nwishes 0,9999\nmust 4,3,2,1,0,10\n")

    def test_both(self):
        self.assertEqual(show_book((MANY[:1], (("b", (2, 1)),))), "wishes\nsize 3,1,2 must\nbounds\nb 2,1\n")


class Letters(unittest.TestCase):
    def test_each_word(self):
        for word in ("ask", "yes", "no", "rather"):
            self.assertEqual(show_letter(("a", word, 1, 0, 2, (("size", 3), ("ask", 0)))), f"a {word} 1 0 2 size=3 ask=0")
            self.assertEqual(show_letter(("bye", word, 10, 4, 1, ())), f"bye {word} 10 4 1")
        for word in ("bye", "here", "there"):
            self.assertEqual(show_letter(("abcdefgh", word, 9999999999, 12, 0, ())), f"abcdefgh {word} 9999999999 12 0")

    def test_numbers_of_more_figures(self):
        self.assertEqual(show_letter(("a", "ask", 10 ** 20, 0, 10 ** 11, ())), f"a ask {10 ** 20} 0 {10 ** 11}")


class Deeds(unittest.TestCase):
    def test_of_ends(self):
        for word in ("open", "close", "tick"):
            for who in ("a", "b"):
                self.assertEqual(show_deed((word, who)), f"{word} {who}")

    def test_of_letters(self):
        for word in ("come", "lost", "twice", "back"):
            for k in (0, 7, 10, 9999999999):
                self.assertEqual(show_deed((word, k)), f"{word} {k}")

    def test_wish(self):
        self.assertEqual(show_deed(("wish", "a", ())), "wish a")
        self.assertEqual(show_deed(("wish", "b", MANY[:1])), "wish b size 3,1,2 must;")
        self.assertEqual(show_deed(("wish", "a", MANY)), (
            "wish a size 3,1,2 must; echo 1; ink 0,9999 if size 2; must 10 must if echo 1; if 1,2,3,4,5,6 if must 10; "
            "bounds 7 must if if 0;"
        ))


class Talks(unittest.TestCase):
    def test_lines(self):
        self.assertEqual(show_talk([]), "")
        self.assertEqual(show_talk([("open", "a")]), "open a\n")
        self.assertEqual(show_talk([("open", "a"), ("wish", "b", MANY[:2]), ("wish", "a", ()), ("back", 0)]),
                         "open a\nwish b size 3,1,2 must; echo 1;\nwish a\nback 0\n")


class Wires(unittest.TestCase):
    def test_new(self):
        self.assertEqual(show_wire(Wire(BOOKS[0], BOOKS[1])), "a closed 0 0 0\nb closed 0 0 0\n")

    def test_ends_and_air(self):
        wire = Wire(BOOKS[0], BOOKS[1])
        for deed in (("open", "a"), ("open", "b"), ("come", 0)):
            wire.do(deed)
        self.assertEqual(show_wire(wire), (
            "a asking 1 0 1\nb asking 1 1 1\nto a b ask 1 0 1 c=5 e=1 d=3\nto a b ask 1 1 1 c=5 e=1 d=3\n"
        ))
        wire.settle()
        self.assertEqual(show_wire(wire), "a open 1 1 2\nb open 1 1 3\n")

    def test_line_by_line_of_led_wires(self):
        for seed in range(40):
            dice = random.Random(seed)
            wire = Wire(dice.choice(BOOKS), dice.choice(BOOKS))
            lead(dice, wire, 40, SMALL_WISHES)
            lines = [" ".join([str(part(end, name)) for name in ("name", "stand", "turn", "yours", "number")]) for end in wire.ends()]
            lines += [f"to {to} {show_letter(letter)}" for to, letter in wire.air()]
            self.assertEqual(show_wire(wire), "".join([line + "\n" for line in lines]))
            self.assertEqual(str(wire), show_wire(wire))


if __name__ == "__main__":
    unittest.main()
