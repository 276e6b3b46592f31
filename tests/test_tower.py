"""Points 19 and 20: towers."""

import copy
import random
import unittest

from crossedwishes.ends import closing, new_end, opened, ticked, wished
from crossedwishes.errors import NoLayer, NotClosed, NotOpen
from crossedwishes.hearing import heard
from crossedwishes.tower import Tower
from tests.things import BOOKS, SMALL_WISHES, STRANGE, closed_as, part, wish, with_parts

NONE = ((), ())
# Each agrees with itself.
SIZES = ((wish("size", (2, 1), True),), (("size", (1, 3)),))
HUES = ((wish("hue", (4,)),), (("hue", (4,)),))
FAILS = ((wish("zinc", (1,), True),), ())
KINDS = [NONE, SIZES, HUES, FAILS, *BOOKS]


class Model:
    """A tower as point 19 tells it, layer by layer."""

    def __init__(self, name, books, tries=3):
        self.books = books
        self.tries = tries
        self.ends = [new_end(name, book[0]) for book in books]

    def twin(self):
        mate = copy.copy(self)
        mate.ends = list(self.ends)
        return mate

    def stands(self, layer):
        return part(self.ends[layer], "stand")

    def event(self, layer, told):
        was = self.stands(layer)
        self.ends[layer], letters = told
        now = self.stands(layer)
        written = [(layer, letter) for letter in letters]
        above = layer + 1
        if was != "open" and now == "open" and above < len(self.ends) and self.stands(above) == "closed":
            self.ends[above], letters = opened(self.ends[above], tries=self.tries)
            written += [(above, letter) for letter in letters]
        if was == "open" and now != "open":
            written += self.close_from(above, "beneath")
        return written

    def close_from(self, lowest, why):
        written = []
        for layer in reversed(range(lowest, len(self.ends))):
            if self.stands(layer) != "closed":
                end, letters = closing(self.ends[layer])
                self.ends[layer] = with_parts(end, why=why)
                written += [(layer, letter) for letter in letters]
        return written

    def open_up(self):
        return self.event(0, opened(self.ends[0], tries=self.tries))

    def close_down(self):
        return self.close_from(0, "closed")

    def tick(self):
        written = []
        for layer in range(len(self.ends)):
            written += self.event(layer, ticked(self.ends[layer]))
        return written

    def hear(self, letter):
        layer, inner = letter
        if not 0 <= layer < len(self.ends) or layer and self.stands(layer - 1) != "open":
            return []
        return self.event(layer, heard(self.ends[layer], inner, self.books[layer][1], tries=self.tries))

    def wish(self, layer, wishes):
        return self.event(layer, wished(self.ends[layer], wishes, tries=self.tries))


class Pair:
    """Two towers and the letters between them; each event is done by a model, too."""

    def __init__(self, test, books, others, tries=3):
        self.test = test
        self.towers = {"a": Tower("a", books, tries=tries), "b": Tower("b", others, tries=tries)}
        self.models = {"a": Model("a", books, tries), "b": Model("b", others, tries)}
        self.air = []

    def does(self, who, word, *args):
        tower, model = self.towers[who], self.models[who]
        told = getattr(tower, word)(*args)
        self.test.assertEqual(told, getattr(model, word)(*args))
        self.test.assertIs(type(told), list)
        self.test.assertEqual(tower.ends(), tuple(model.ends))
        self.looks(tower)
        self.air += [("b" if who == "a" else "a", letter) for letter in told]
        return told

    def looks(self, tower):
        stands = [part(end, "stand") for end in tower.ends()]
        self.test.assertEqual(tower.high(), stands.count("open"))
        self.test.assertIs(tower.is_whole(), stands.count("open") == len(stands))
        for beneath, stand in zip(stands, stands[1:]):
            # Each layer but the first stands open, or asks, only where the one beneath stands open.
            self.test.assertTrue(stand == "closed" or beneath == "open", stands)
        self.test.assertEqual(repr(tower), f"Tower({tower.name()}, {tower.high()} of {len(stands)})")
        self.test.assertEqual(len(tower), len(stands))

    def come(self, at=0):
        to, letter = self.air.pop(at)
        return self.does(to, "hear", letter)

    def opens(self):
        self.does("a", "open_up")
        self.does("b", "open_up")
        while self.air:
            self.come()


class Whole(unittest.TestCase):
    def test_two_towers_come_to_stand_whole(self):
        for books in ((NONE,), (SIZES,), (NONE, NONE), (SIZES, HUES), (SIZES, NONE, HUES), (HUES, SIZES, NONE, SIZES)):
            pair = Pair(self, books, books)
            pair.opens()
            for who in "ab":
                self.assertTrue(pair.towers[who].is_whole())
                self.assertEqual(pair.towers[who].high(), len(books))

    def test_only_as_high_as_both_agree(self):
        for books, high in (((FAILS,), 0), ((SIZES, FAILS), 1), ((SIZES, FAILS, HUES), 1), ((SIZES, HUES, FAILS, NONE), 2)):
            pair = Pair(self, books, books)
            pair.opens()
            for who in "ab":
                self.assertEqual(pair.towers[who].high(), high)
                self.assertIs(pair.towers[who].is_whole(), False)

    def test_towers_unlike_in_height(self):
        pair = Pair(self, (SIZES, HUES, NONE), (SIZES, HUES))
        pair.opens()
        self.assertEqual([tower.high() for tower in pair.towers.values()], [2, 2])
        self.assertEqual([tower.is_whole() for tower in pair.towers.values()], [False, True])


class ByHand(unittest.TestCase):
    def test_open_up(self):
        tower = Tower("a", (SIZES, HUES))
        self.assertEqual(tower.open_up(), [(0, ("a", "ask", 1, 0, 1, (("size", 2),)))])
        self.assertEqual([part(end, "stand") for end in tower.ends()], ["asking", "closed"])
        self.assertEqual((tower.high(), tower.is_whole()), (0, False))

    def risen(self, **tries):
        """A tower of three layers, all open, with the other's opening numbers 1."""
        tower = Tower("a", (SIZES, HUES, NONE), **tries)
        tower.open_up()
        letters = [(0, ("b", "ask", 1, 1, 1, ())), (0, ("b", "rather", 1, 1, 1, (("size", 1),))), (0, ("b", "yes", 1, 1, 2, (("size", 1),))),
                   (1, ("b", "ask", 1, 1, 1, ())), (1, ("b", "yes", 1, 1, 1, (("hue", 4),))),
                   (2, ("b", "ask", 1, 1, 1, ())), (2, ("b", "yes", 1, 1, 1, ()))]
        written = [tower.hear(letter) for letter in letters]
        self.assertEqual(written, [
            [(0, ("a", "ask", 1, 1, 1, (("size", 2),))), (0, ("a", "yes", 1, 1, 1, ()))],
            [(0, ("a", "ask", 1, 1, 2, (("size", 1),)))],
            # The first layer stands open: the next one is opened.
            [(1, ("a", "ask", 1, 0, 1, (("hue", 4),)))],
            [(1, ("a", "ask", 1, 1, 1, (("hue", 4),))), (1, ("a", "yes", 1, 1, 1, ()))],
            [(2, ("a", "ask", 1, 0, 1, ()))],
            [(2, ("a", "ask", 1, 1, 1, ())), (2, ("a", "yes", 1, 1, 1, ()))],
            [],
        ])
        self.assertTrue(tower.is_whole())
        return tower

    def test_rises(self):
        self.assertEqual(repr(self.risen()), "Tower(a, 3 of 3)")

    def test_letters_of_the_layer_ahead_of_those_of_the_next(self):
        tower = Tower("a", (NONE, NONE))
        tower.open_up()
        tower.hear((0, ("b", "yes", 1, 1, 1, ())))
        self.assertEqual(tower.hear((0, ("b", "ask", 1, 1, 1, ()))), [(0, ("a", "yes", 1, 1, 1, ())), (1, ("a", "ask", 1, 0, 1, ()))])

    def test_close_down(self):
        tower = self.risen()
        before = tower.ends()
        self.assertEqual(tower.close_down(), [(layer, ("a", "bye", 1, 1, 0, ())) for layer in (2, 1, 0)])
        self.assertEqual(tower.ends(), tuple([closed_as(end, "closed") for end in before]))
        with self.assertRaises(NotOpen):
            tower.close_down()

    def test_close_down_of_one_that_is_not_whole(self):
        tower = Tower("a", (SIZES, HUES, NONE))
        tower.open_up()
        self.assertEqual(tower.close_down(), [(0, ("a", "bye", 1, 0, 0, ()))])
        self.assertEqual([part(end, "why") for end in tower.ends()], ["closed", "new", "new"])

    def test_falls_with_the_layer_beneath(self):
        tower = self.risen()
        before = tower.ends()
        self.assertEqual(tower.hear((0, ("b", "bye", 1, 1, 0, ()))), [(layer, ("a", "bye", 1, 1, 0, ())) for layer in (2, 1)])
        self.assertEqual(tower.ends(), (closed_as(before[0], "bye"), closed_as(before[1], "beneath"), closed_as(before[2], "beneath")))

    def test_falls_from_the_middle(self):
        tower = self.risen()
        before = tower.ends()
        self.assertEqual(tower.hear((1, ("b", "bye", 1, 1, 0, ()))), [(2, ("a", "bye", 1, 1, 0, ()))])
        self.assertEqual(tower.ends(), (before[0], closed_as(before[1], "bye"), closed_as(before[2], "beneath")))
        # The first layer stands open all the while, so nothing rises anew.
        self.assertEqual(tower.hear((0, ("b", "here", 1, 1, 0, ()))), [(0, ("a", "there", 1, 1, 0, ()))])
        self.assertEqual(tower.high(), 1)

    def test_falls_where_a_layer_asks_again(self):
        tower = self.risen()
        before = tower.ends()
        # A newer letter: the layer begins anew.
        self.assertEqual(tower.hear((0, ("b", "ask", 2, 0, 1, ()))),
                         [(0, ("a", "ask", 1, 2, 1, (("size", 2),))), (2, ("a", "bye", 1, 1, 0, ())), (1, ("a", "bye", 1, 1, 0, ()))])
        self.assertEqual(tower.ends()[1:], (closed_as(before[1], "beneath"), closed_as(before[2], "beneath")))
        self.assertEqual(part(tower.ends()[0], "stand"), "asking")

    def test_wishes_are_an_event_of_a_layer(self):
        tower = self.risen()
        self.assertEqual(tower.wish(1, ()), [(1, ("a", "ask", 1, 1, 2, ())), (2, ("a", "bye", 1, 1, 0, ()))])
        self.assertEqual([part(end, "stand") for end in tower.ends()], ["open", "asking", "closed"])
        self.assertEqual(tower.hear((1, ("b", "yes", 1, 1, 2, ()))), [(2, ("a", "ask", 2, 1, 1, ()))])
        # Of a closed layer, and of the top one.
        self.assertEqual(tower.wish(2, (wish("ink"),)), [(2, ("a", "ask", 2, 1, 2, (("ink", 1),)))])
        tower.close_down()
        self.assertEqual(tower.wish(0, ()), [])
        self.assertEqual(part(tower.ends()[0], "wishes"), ())

    def test_wishes_that_must_and_are_refused(self):
        tower = self.risen()
        self.assertEqual(tower.wish(0, (wish("size", (2,), True),)), [(layer, ("a", "bye", 1, 1, 0, ())) for layer in (0, 2, 1)])
        self.assertEqual([part(end, "why") for end in tower.ends()], ["failed", "beneath", "beneath"])

    def test_tick(self):
        tower = self.risen(tries=2)
        here = [(layer, ("a", "here", 1, 1, 0, ())) for layer in (0, 1, 2)]
        self.assertEqual(tower.tick(), here)
        self.assertEqual([part(end, "tries") for end in tower.ends()], [1, 1, 1])
        tower.hear((0, ("b", "there", 1, 1, 0, ())))
        tower.hear((2, ("b", "there", 1, 1, 0, ())))
        self.assertEqual(tower.tick(), here)
        # The middle one gives up; what stands on it falls ahead of its own tick.
        self.assertEqual(tower.tick(), [(0, ("a", "here", 1, 1, 0, ())), (1, ("a", "bye", 1, 1, 0, ())), (2, ("a", "bye", 1, 1, 0, ()))])
        self.assertEqual([part(end, "why") for end in tower.ends()], ["", "tries", "beneath"])
        self.assertEqual(tower.tick(), [(0, ("a", "bye", 1, 1, 0, ()))])
        self.assertEqual(tower.tick(), [])

    def test_tick_that_fells_all(self):
        tower = self.risen(tries=1)
        tower.tick()
        self.assertEqual(tower.tick(), [(layer, ("a", "bye", 1, 1, 0, ())) for layer in (0, 2, 1)])
        self.assertEqual([part(end, "why") for end in tower.ends()], ["tries", "beneath", "beneath"])

    def test_letters_thrown_away(self):
        tower = self.risen()
        before = tower.ends()
        for layer in (3, 4, -1, -2, -3, -4, 10 ** 99, -(10 ** 99)):
            self.assertEqual(tower.hear((layer, ("b", "bye", 1, 1, 0, ()))), [])
        self.assertEqual(tower.ends(), before)
        tower.hear((0, ("b", "ask", 1, 1, 2, (("zinc", 1),))))
        before = tower.ends()
        self.assertEqual([part(end, "stand") for end in before], ["asking", "closed", "closed"])
        # A closed layer would write bye, if the one beneath stood open.
        for layer in (1, 2):
            self.assertEqual(tower.hear((layer, ("b", "here", 1, 1, 0, ()))), [])
        self.assertEqual(tower.ends(), before)

    def test_closed_layers_on_open_ones_hear(self):
        tower = self.risen()
        tower.hear((1, ("b", "bye", 1, 1, 0, ())))
        self.assertEqual(tower.hear((1, ("b", "here", 1, 1, 0, ()))), [(1, ("a", "bye", 1, 1, 0, ()))])
        self.assertEqual(tower.hear((2, ("b", "here", 1, 1, 0, ()))), [])

    def test_the_first_layer_hears_though_it_is_closed(self):
        tower = self.risen()
        tower.close_down()
        self.assertEqual(tower.hear((0, ("b", "here", 1, 1, 0, ()))), [(0, ("a", "bye", 1, 1, 0, ()))])

    def test_echoes(self):
        tower = self.risen()
        for turn in range(2):
            self.assertEqual(tower.hear((1, ("a", "here", 1, 1, 0, ()))), [])
        self.assertEqual(tower.hear((1, ("a", "here", 1, 1, 0, ()))), [(2, ("a", "bye", 1, 1, 0, ()))])
        self.assertEqual([part(end, "why") for end in tower.ends()], ["", "echo", "beneath"])


class Refused(unittest.TestCase):
    def refuses(self, tower, error, do, **fields):
        before = tower.ends()
        with self.assertRaises(error) as caught:
            do()
        self.assertIs(type(caught.exception), error)
        self.assertEqual(vars(caught.exception), fields)
        self.assertEqual(tower.ends(), before)

    def test_not_closed(self):
        tower = Tower("a", (NONE, NONE))
        tower.open_up()
        self.refuses(tower, NotClosed, tower.open_up)
        for letter in ((0, ("b", "ask", 1, 1, 1, ())), (0, ("b", "yes", 1, 1, 1, ()))):
            tower.hear(letter)
        self.assertEqual(tower.high(), 1)
        self.refuses(tower, NotClosed, tower.open_up)

    def test_not_open(self):
        tower = Tower("a", (NONE, NONE))
        self.refuses(tower, NotOpen, tower.close_down)
        tower.open_up()
        tower.close_down()
        self.refuses(tower, NotOpen, tower.close_down)
        tower.open_up()

    def test_no_layer(self):
        for many in range(1, 5):
            tower = Tower("a", (SIZES,) * many)
            tower.open_up()
            for layer in (many, many + 1, -1, -many, 10 ** 99, -(10 ** 99)):
                self.refuses(tower, NoLayer, lambda: tower.wish(layer, ()), layer=layer)
            for thing in STRANGE + [True, False, "0", (0,), [0]]:
                if isinstance(thing, bool) or not isinstance(thing, int):
                    self.refuses(tower, NoLayer, lambda: tower.wish(thing, ()), layer=None)


class Plain(unittest.TestCase):
    def test_new(self):
        for many in range(1, 5):
            books = tuple(KINDS[:many])
            tower = Tower("left", books)
            self.assertEqual(tower.ends(), tuple([new_end("left", book[0]) for book in books]))
            self.assertEqual((tower.name(), len(tower), tower.high(), tower.is_whole()), ("left", many, 0, False))
            self.assertEqual(repr(tower), f"Tower(left, 0 of {many})")
            self.assertEqual([type(thing) for thing in (tower.ends(), tower.name(), tower.high(), tower.is_whole())], [tuple, str, int, bool])

    def test_alike(self):
        books = (SIZES, HUES)
        tower = Tower("a", books)
        self.assertTrue(tower == Tower("a", books, tries=3))
        for other in (Tower("b", books), Tower("a", books[:1]), Tower("a", books[::-1]), Tower("a", books, tries=2)):
            self.assertFalse(tower == other)
            self.assertTrue(tower != other)
        # The same ends, but other bounds.
        self.assertFalse(tower == Tower("a", (SIZES, (HUES[0], ()))))
        other = Tower("a", books)
        other.open_up()
        self.assertFalse(tower == other)
        tower.open_up()
        self.assertTrue(tower == other)
        tower.tick()
        self.assertFalse(tower == other)
        for thing in STRANGE + [tower.ends(), repr(tower)]:
            self.assertFalse(tower == thing)
            self.assertFalse(thing == tower)

    def test_tries(self):
        for tries in range(1, 10):
            tower = Tower("a", (NONE,), tries=tries)
            tower.open_up()
            self.assertEqual([tower.tick()[0][1][1] for turn in range(tries + 1)], ["ask"] * tries + ["bye"])
        tower = Tower("a", (NONE,))
        tower.open_up()
        self.assertEqual([tower.tick()[0][1][1] for turn in range(4)], ["ask"] * 3 + ["bye"])

    def test_methods_stand_in_the_class(self):
        for name in "open_up close_down tick hear wish ends high is_whole name __len__ __eq__ __repr__".split():
            self.assertIn(name, vars(Tower))

    def test_what_was_told_and_handed_in_stays(self):
        books = copy.deepcopy((SIZES, HUES))
        tower = Tower("a", books)
        told = tower.open_up()
        kept, ends = copy.deepcopy(told), tower.ends()
        copied = copy.deepcopy(ends)
        tower.tick()
        tower.wish(0, ())
        self.assertEqual((told, ends, books), (kept, copied, (SIZES, HUES)))
        before = tower.ends()
        told.clear()
        tower.hear((0, ("a", "bye", 1, 1, 0, ()))).append(None)
        tower.ends()
        self.assertEqual(tower.ends(), (with_parts(before[0], echoes=1), before[1]))
        self.assertEqual(len(tower.tick()), 1)

    def test_towers_beside_one_another(self):
        one, other = Tower("a", (SIZES, HUES)), Tower("a", (SIZES, HUES))
        one.open_up()
        self.assertEqual(part(other.ends()[0], "stand"), "closed")


class Led(unittest.TestCase):
    """Letters that come in any order, are lost, come twice, come back; each event beside the model."""

    def step(self, pair, dice):
        who = dice.choice("ab")
        tower = pair.towers[who]
        first = part(tower.ends()[0], "stand")
        word = dice.choices(("open", "close", "tick", "wish", "come", "lost", "twice", "back"), (10, 1, 6, 2, 70, 3, 8, 1))[0]
        if word == "open" and first == "closed":
            pair.does(who, "open_up")
        elif word == "close" and first != "closed":
            pair.does(who, "close_down")
        elif word == "tick":
            pair.does(who, "tick")
        elif word == "wish":
            pair.does(who, "wish", dice.randrange(len(tower)), dice.choice(SMALL_WISHES + [SIZES[0], HUES[0], ()]))
        elif word in ("come", "lost", "twice", "back") and pair.air:
            at = dice.choice((0, dice.randrange(len(pair.air))))
            if word == "come":
                pair.come(at)
            elif word == "lost":
                pair.air.pop(at)
            elif word == "twice" and len(pair.air) < 40:
                pair.air.append(pair.air[at])
            elif word == "back":
                to, letter = pair.air.pop(at)
                pair.does(letter[1][0], "hear", letter)

    def test_letters_of_all_sorts(self):
        highest = {}
        for seed in range(250):
            dice = random.Random(seed)
            many = dice.randint(1, 4)
            if seed % 2:
                books = others = tuple([dice.choice(KINDS[:3]) for layer in range(many)])
            else:
                books, others = [tuple([dice.choice(KINDS) for layer in range(dice.randint(1, 4))]) for turn in range(2)]
            pair = Pair(self, books, others, dice.randint(1, 4))
            for turn in range(150):
                self.step(pair, dice)
                high = min([tower.high() for tower in pair.towers.values()])
                highest[high] = highest.get(high, 0) + 1
        self.assertGreater(min([highest.get(high, 0) for high in range(5)]), 5)

    def test_each_event_at_each_stand(self):
        for many in range(1, 5):
            for seed in range(3):
                dice = random.Random(seed)
                pair = Pair(self, (SIZES, HUES, NONE, SIZES)[:many], (SIZES, HUES, NONE, SIZES)[:many])
                pair.does("a", "open_up")
                pair.does("b", "open_up")
                while pair.air:
                    self.each_event(pair, many)
                    pair.come(dice.randrange(len(pair.air)))
                self.assertTrue(pair.towers["a"].is_whole())

    def each_event(self, pair, many):
        letters = [("b", word, mine, yours, 0, ()) for word in ("bye", "here", "there") for mine, yours in ((1, 1), (1, 0), (2, 1))]
        letters += [(who, "ask", mine, yours, number, pairs) for who in "ab" for mine, yours in ((1, 1), (2, 1))
                    for number in (1, 2) for pairs in ((), (("zinc", 1),))]
        events = [("hear", (layer, letter)) for layer in range(-1, many + 1) for letter in letters]
        events += [("tick",), ("close_down",)] + [("wish", layer, wishes) for layer in range(many) for wishes in ((), FAILS[0])]
        for event in events:
            kept = (pair.towers, pair.models, list(pair.air))
            pair.towers = {who: copy.copy(tower) for who, tower in pair.towers.items()}
            pair.models = {who: model.twin() for who, model in pair.models.items()}
            pair.does("a", *event)
            pair.towers, pair.models, pair.air = kept


if __name__ == "__main__":
    unittest.main()
