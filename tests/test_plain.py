import unittest

from crossedwishes.plain import has_parts, is_same, is_whole
from tests.things import STRANGE, kin

TOLD = [[], [("a", 0)], ["a", [1, (0,)], None], (), "a", 0, 1, True, False, None, ("a", (0, 1)), ("a", (("b", 1), ("c", True)), None, (False, ()))]


class Plain(unittest.TestCase):
    def test_a_truth_is_no_whole_number(self):
        for thing in (0, 1, -1, 10 ** 99):
            self.assertIs(is_whole(thing), True)
        for thing in (True, False, None, "1", (1,), [1], {1: 1}):
            self.assertIs(is_whole(thing), False)

    def test_parts_are_those_of_a_tuple(self):
        self.assertIs(has_parts((), 0), True)
        self.assertIs(has_parts((1, 2), 2), True)
        for thing in ((), (1,), (1, 2, 3), [1, 2], "ab", {1: 1, 2: 2}, None, 2):
            self.assertIs(has_parts(thing, 2), False)

    def test_the_same_is_the_same(self):
        for told in TOLD:
            self.assertIs(is_same(told, told), True)

    def test_unlike_things_and_unlike_kinds_are_not(self):
        for told in TOLD:
            for thing in TOLD:
                if TOLD.index(thing) != TOLD.index(told):
                    self.assertIs(is_same(thing, told), False, (thing, told))
            for thing in kin(told):
                self.assertIs(is_same(thing, told), False, (thing, told))
        for thing in STRANGE:
            self.assertIs(is_same(thing, ("a", (0, 1))), False)

    def test_truths_are_apart_from_numbers(self):
        for thing, told in ((1, True), (0, False), (True, 1), (False, 0), ((True,), (1,)), ((0,), (False,))):
            self.assertIs(is_same(thing, told), False)


if __name__ == "__main__":
    unittest.main()
