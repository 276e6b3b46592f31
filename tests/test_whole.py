"""Point 3, over the whole program: wires, rows, towers, weavings, talks, texts and desks together."""

import inspect
import itertools
import random
import unittest

from crossedwishes import answers, courses, desk, ends, hearing, letters, machine, reader, rings, rows, talks, texts, together, tower, unsafe, weave, wire, wishes
from crossedwishes.courses import course
from crossedwishes.desk import Desk
from crossedwishes.ends import new_end
from crossedwishes.machine import by_rows
from crossedwishes.reader import read_book, read_deed, read_letter, read_talk
from crossedwishes.rows import told_rows
from crossedwishes.talks import is_talk, stands_behind, told_on, wire_behind, wire_of
from crossedwishes.texts import show_book, show_deed, show_letter, show_talk, show_wire
from crossedwishes.together import agreed_asks, together as agree
from crossedwishes.tower import Tower
from crossedwishes.unsafe import unsafe as unsafe_on
from crossedwishes.weave import comes_to_by, weavings
from crossedwishes.wire import Wire
from tests.things import BOOKS, SMALL, SMALL_WISHES, lead, other_name, part, some_deed, wish

ROWS = told_rows()


class RowsWire:
    """A wire whose ends do what the machine of the told rows does."""

    def __init__(self, one, other, tries):
        self.bounds = {"a": one[1], "b": other[1]}
        self.both = {"a": new_end("a", one[0]), "b": new_end("b", other[0])}
        self.tries = tries
        self.flying = []

    def do(self, deed):
        word, what = deed[:2]
        if word == "twice":
            self.flying.append(self.flying[what])
            return
        if word in ("come", "lost", "back"):
            to, event = self.flying.pop(what)
            if word == "lost":
                return
            who = to if word == "come" else other_name(to)
        else:
            who, event = what, (word, *deed[2:])
        self.both[who], written = by_rows(ROWS, self.both[who], event, self.bounds[who], tries=self.tries)
        self.flying += [(other_name(who), letter) for letter in written]


class Machine(unittest.TestCase):
    def test_the_machine_does_on_a_wire_what_the_wire_does(self):
        for seed in range(120):
            dice = random.Random(seed)
            one, other, tries = dice.choice(BOOKS), dice.choice(BOOKS), dice.randint(1, 9)
            plain, by_machine = Wire(one, other, tries=tries), RowsWire(one, other, tries)
            for turn in range(60):
                deed = some_deed(dice, plain, SMALL_WISHES)
                if deed is not None:
                    plain.do(deed)
                    by_machine.do(deed)
                    self.assertEqual(plain.ends(), tuple(by_machine.both.values()))
                    self.assertEqual(plain.air(), by_machine.flying)

    def test_settling_by_the_machine(self):
        for one, other in itertools.product(BOOKS, BOOKS):
            plain = Wire(one, other)
            plain.do(("open", "a"))
            plain.do(("open", "b"))
            plain.settle()
            by_machine = RowsWire(one, other, 3)
            for deed in plain.deeds():
                by_machine.do(deed)
            self.assertEqual(plain.ends(), tuple(by_machine.both.values()))


class WrittenAndReadBack(unittest.TestCase):
    def test_told_on_from_any_middle(self):
        for seed in range(40):
            dice = random.Random(seed)
            one, other, tries = dice.choice(BOOKS), dice.choice(SMALL), dice.randint(1, 9)
            led = Wire(one, other, tries=tries)
            lead(dice, led, 40, SMALL_WISHES)
            books = [read_book(show_book(book)) for book in (one, other)]
            talk = read_talk(show_talk(led.deeds()))
            self.assertIs(is_talk(*books, talk, tries=tries), True)
            self.assertTrue(wire_behind(*books, talk, tries=tries) == led)
            self.assertEqual(stands_behind(*books, talk, tries=tries)[-1], led.stands())
            middle = dice.randrange(41)
            halfway = wire_behind(*books, talk[:middle], tries=tries)
            self.assertTrue(told_on(halfway.saved(), read_talk(show_talk(talk[middle:]))) == led)
            self.assertEqual(show_wire(wire_of(led.saved())), str(led))
            self.assertEqual([read_letter(show_letter(letter)) for to, letter in led.air()], [letter for to, letter in led.air()])
            self.assertEqual([read_deed(show_deed(deed)) for deed in talk], led.deeds())

    def test_the_text_of_a_talk_leads_a_desk(self):
        for seed in range(30):
            dice = random.Random(seed)
            one, other = dice.choice(BOOKS), dice.choice(BOOKS)
            led = Wire(one, other)
            lead(dice, led, 40)
            table = Desk(one, other)
            for line in show_talk(led.deeds()).splitlines():
                table.say(line.replace("back", "echo"))
            lines = [table.say("end a"), table.say("end b"), *table.say("air").replace("-", "").split(";")]
            self.assertEqual([line for line in lines if line], str(led).splitlines())


class CoursesTell(unittest.TestCase):
    def due(self, one, other):
        here, there = course(one[0], other[1]), course(other[0], one[1])
        return ("open", here[1], there[1]) if here[0] == there[0] == "agreed" else ("closed",)

    def test_settled_wires_and_weavings(self):
        small = [book for book in SMALL if len(book[0]) < 2]
        words = set()
        for one, other in itertools.product(small, small[::3]):
            due = self.due(one, other)
            plain = Wire(one, other)
            plain.do(("open", "a"))
            plain.do(("open", "b"))
            plain.settle()
            self.assertEqual(plain.stands(), due)
            told = weavings(one, other)
            self.assertEqual([stand for stand, deeds in told], [due])
            self.assertEqual(stands_behind(one, other, told[0][1], tries=1)[-1], due)
            self.assertEqual(comes_to_by(one, other, read_talk(show_talk(told[0][1]))), due)
            words.add(due[0])
        self.assertEqual(words, {"open", "closed"})

    def test_what_stands_is_among_what_can_be_agreed(self):
        for one, other in itertools.product(BOOKS, BOOKS):
            words = (agree(one[0], other[1])[0], agree(other[0], one[1])[0])
            stand = self.due(one, other)
            if words == ("always", "always"):
                self.assertEqual(stand[0], "open")
            if "never" in words:
                self.assertEqual(stand, ("closed",))
            if stand[0] == "open":
                self.assertIn(stand[1], agreed_asks(one[0], other[1]))
                self.assertIn(stand[2], agreed_asks(other[0], one[1]))

    def test_lost_and_doubled_letters_come_to_that_or_to_nothing(self):
        one, other = ((wish("a", (2, 1), True),), ()), ((), (("a", (1,)),))
        due = self.due(one, other)
        for lost, twice in ((1, 0), (2, 0), (0, 1)):
            self.assertLessEqual({stand for stand, deeds in weavings(one, other, lost=lost, twice=twice)}, {due, ("closed",)})


class Towers(unittest.TestCase):
    def test_each_layer_comes_to_what_a_wire_does(self):
        """Two towers between which all letters come, beside a wire for each layer."""
        for seed in range(60):
            dice = random.Random(seed)
            many = dice.randint(1, 4)
            books = [tuple([dice.choice(BOOKS[:2] + BOOKS[3:]) for layer in range(many)]) for who in "ab"]
            towers = {"a": Tower("a", books[0]), "b": Tower("b", books[1])}
            air = [("b", letter) for letter in towers["a"].open_up()] + [("a", letter) for letter in towers["b"].open_up()]
            while air:
                to, letter = air.pop(0)
                air += [(other_name(to), written) for written in towers[to].hear(letter)]
            for layer in range(many):
                plain = Wire(books[0][layer], books[1][layer])
                plain.do(("open", "a"))
                plain.do(("open", "b"))
                plain.settle()
                pair = [towers[who].ends()[layer] for who in "ab"]
                if plain.stands()[0] != "open":
                    self.assertNotIn("open", [part(end, "stand") for end in pair])
                    break
                self.assertEqual([part(end, "given") for end in pair], list(plain.stands()[1:]))
            self.assertEqual(towers["a"].high(), towers["b"].high())


class Safe(unittest.TestCase):
    def test_nothing_is_ever_unsafe_in_weavings(self):
        for one, other in itertools.product(BOOKS[1:4], BOOKS[2:]):
            for stand, deeds in weavings(one, other):
                for many in range(len(deeds) + 1):
                    self.assertEqual(unsafe_on(wire_behind(one, other, deeds[:many], tries=1)), [])


class Interface(unittest.TestCase):
    """The names and arguments that the document lists."""

    FUNCTIONS = {
        wishes: ["is_name(thing)", "is_worth(thing)", "is_wish(thing)", "are_wishes(thing)", "are_bounds(thing)", "is_book(thing)",
                 "plan_of(wishes, *, refused=())", "ask_of(wishes, plan)"],
        answers: ["answer(bounds, ask)", "is_answer(bounds, ask, thing)", "behind(wishes, plan, thing)"],
        courses: ["course(wishes, bounds)", "comes_to(wishes, bounds, thing)", "longest(wishes, bounds)"],
        together: ["together(wishes, bounds)", "agreed_asks(wishes, bounds)", "lets_together(wishes, bounds, thing)"],
        rings: ["lesser_course(wishes, bounds)", "lets_ring(wishes, bounds, thing)"],
        letters: ["is_letter(thing)", "letter_back(letter, other)"],
        ends: ["new_end(name, wishes)", "opened(end, *, tries=3)", "closing(end)", "ticked(end)", "wished(end, wishes, *, tries=3)"],
        hearing: ["heard(end, letter, bounds, *, tries=3)", "stands_open_with(one, other)"],
        rows: ["told_rows()", "are_rows(thing)"],
        machine: ["by_rows(rows, end, event, bounds, *, tries=3)", "row_of(rows, end, event, bounds)"],
        weave: ["weavings(one, other, *, tries=1, lost=0, twice=0)", "comes_to_by(one, other, thing, *, tries=1, lost=0, twice=0)"],
        unsafe: ["unsafe(wire)", "lesser_heard(end, letter, bounds, *, tries=3)", "fall(one, other, deeds, *, tries=3, most=4)"],
        talks: ["is_talk(one, other, thing, *, tries=3)", "wire_behind(one, other, talk, *, tries=3)", "stands_behind(one, other, talk, *, tries=3)",
                "longest_alone(one, other, talk, *, tries=3)", "wire_of(saved)", "told_on(saved, deeds)", "first_apart(one, other, talk, mate, *, tries=3)"],
        texts: ["show_book(book)", "show_letter(letter)", "show_deed(deed)", "show_talk(talk)", "show_wire(wire)"],
        reader: ["read_book(text)", "read_letter(text)", "read_deed(text)", "read_talk(text)"],
    }
    CLASSES = {
        wire: ("Wire(one, other, *, tries=3)", ["do(deed)", "back()", "settle()", "ends()", "air()", "deeds()", "stands()", "saved()", "twin()"],
               ["__len__", "__eq__", "__str__", "__repr__"]),
        tower: ("Tower(name, books, *, tries=3)", ["open_up()", "close_down()", "tick()", "hear(letter)", "wish(layer, wishes)", "ends()", "high()", "is_whole()", "name()"],
                ["__len__", "__eq__", "__repr__"]),
        desk: ("Desk(one, other, *, tries=3)", ["say(line)"], []),
    }

    def test_functions(self):
        for module, listed in self.FUNCTIONS.items():
            for line in listed:
                name = line.partition("(")[0]
                found = getattr(module, name)
                self.assertEqual(name + str(inspect.signature(found)), line)
                self.assertEqual(found.__module__, module.__name__)

    def test_classes(self):
        for module, (line, methods, others) in self.CLASSES.items():
            name = line.partition("(")[0]
            found = getattr(module, name)
            self.assertEqual(name + str(inspect.signature(found)), line)
            for method in methods:
                short = method.partition("(")[0]
                own = vars(found)[short]
                bare = str(inspect.signature(own)).replace("(self, ", "(").replace("(self)", "()")
                self.assertEqual(short + bare, method)
            for short in others:
                self.assertIn(short, vars(found))


if __name__ == "__main__":
    unittest.main()
