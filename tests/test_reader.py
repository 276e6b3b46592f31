"""Point 26: what is written is read back, and of other texts the line is told."""

import random
import re
import unittest

from crossedwishes.errors import NoText
from crossedwishes.letters import is_letter
from crossedwishes.reader import read_book, read_deed, read_letter, read_talk
from crossedwishes.texts import show_book, show_deed, show_letter, show_talk
from crossedwishes.wire import Wire
from crossedwishes.wishes import are_wishes, is_book
from tests.test_texts import MANY
from tests.things import BOOKS, SMALL, SMALL_WISHES, STRANGE, lead, wish

WORDS = ("ask", "yes", "no", "rather", "bye", "here", "there")
EIGHT = tuple([(kind, (at,)) for at, kind in enumerate("abcdefgh")])
TEXTS_WORDS = ("must", "if", "wishes", "bounds", "to", "wish", "come")

SOME_BOOKS = SMALL + BOOKS + [
    (MANY, EIGHT), (tuple([wish(kind, (1,), True) for kind in TEXTS_WORDS[:6]]), tuple([(kind, (0,)) for kind in TEXTS_WORDS])),
]
SOME_LETTERS = [
    (who, word, mine, yours, number, pairs)
    for who, mine, yours in (("a", 1, 0), ("b", 12, 9), ("abcdefgh", 9999999999, 9999999999), ("ask", 3, 3))
    for word, number, pairs in [(word, 0, ()) for word in WORDS[4:]] + [
        (word, number, pairs) for word in WORDS[:4] for number in (1, 10, 9999999999)
        for pairs in ((), (("size", 0),), tuple([(kind, 9999 - at) for at, kind in enumerate(TEXTS_WORDS[:6])]))]
]
SOME_DEEDS = [(word, who) for word in ("open", "close", "tick") for who in "ab"] + [
    (word, k) for word in ("come", "lost", "twice", "back") for k in (0, 1, 9, 10, 300, 9999999999)] + [
    ("wish", who, wishes) for who in "ab" for wishes in SMALL_WISHES + [MANY, MANY[:1]]]


# Signs of each text, to be put in where they don't belong.
SIGNS = "\n ,;=0123456789abcdefghimnoprstuwyAZ-~"

NUMBER = "(?:0|[1-9][0-9]{0,9})"
WISH = re.compile(rf"([a-z]{{1,8}}) ({NUMBER}(?:,{NUMBER})*)( must)?(?: if ([a-z]{{1,8}}) ({NUMBER}))?")
BOUND = re.compile(rf"([a-z]{{1,8}}) ({NUMBER}(?:,{NUMBER})*)")
LETTER = re.compile(rf"([a-z]{{1,8}}) ([a-z]+) ({NUMBER}) ({NUMBER}) ({NUMBER})((?: [a-z]{{1,8}}={NUMBER})*)")


def numbers(text):
    return tuple([int(part) for part in text.split(",")])


def due_wish(text):
    found = WISH.fullmatch(text)
    if not found:
        return None
    kind, worths, must, needed, worth = found.groups()
    return (kind, numbers(worths), must is not None, None if needed is None else (needed, int(worth)))


def due_bound(text):
    found = BOUND.fullmatch(text)
    return (found[1], numbers(found[2])) if found else None


def due_letter(text):
    """The letter that a text writes, by another way than the program's, or None."""
    found = LETTER.fullmatch(text)
    if not found:
        return None
    pairs = [pair.split("=") for pair in found[6].split()]
    letter = (found[1], found[2], int(found[3]), int(found[4]), int(found[5]), tuple([(kind, int(worth)) for kind, worth in pairs]))
    return letter if is_letter(letter) else None


def due_deed(text):
    """The deed that a text writes, by another way than the program's, or None."""
    found = re.fullmatch("(open|close|tick) ([ab])", text)
    if found:
        return found.groups()
    found = re.fullmatch(f"(come|lost|twice|back) ({NUMBER})", text)
    if found:
        return (found[1], int(found[2]))
    found = re.fullmatch("wish ([ab])((?: [^;]*;)*)", text)
    if not found:
        return None
    wishes = tuple([due_wish(part) for part in re.findall(" ([^;]*);", found[2])])
    return ("wish", found[1], wishes) if are_wishes(wishes) else None


def due_book(lines):
    """The book that lines write, by another way than the program's, or None."""
    if lines[:1] != ["wishes"] or "bounds" not in lines:
        return None
    middle = lines.index("bounds")
    book = (tuple([due_wish(line) for line in lines[1:middle]]), tuple([due_bound(line) for line in lines[middle + 1:]]))
    return book if is_book(book) else None


def begins_book(lines):
    """Whether a book's text begins with these lines."""
    return not lines or due_book(lines) is not None or due_book(lines + ["bounds"]) is not None


def parted(text):
    """The whole lines of a text, and whether one without a line end stands behind them."""
    *lines, rest = text.split("\n")
    return lines, rest != ""


def told(read, text):
    """What is read, or the line that the refusal tells."""
    try:
        return ("read", read(text))
    except NoText as error:
        return ("line", error.line)


def due_of_book(text):
    lines, lacks = parted(text)
    for at in range(len(lines)):
        if not begins_book(lines[:at + 1]):
            return ("line", at)
    book = due_book(lines)
    return ("line", len(lines)) if lacks or book is None else ("read", book)


def due_of_talk(text):
    lines, lacks = parted(text)
    deeds = [due_deed(line) for line in lines]
    if None in deeds:
        return ("line", deeds.index(None))
    return ("line", len(lines)) if lacks else ("read", deeds)


def due_of_line(due):
    return lambda text: ("line", 0) if due(text) is None else ("read", due(text))


DUE = {read_book: due_of_book, read_talk: due_of_talk, read_letter: due_of_line(due_letter), read_deed: due_of_line(due_deed)}


def spoiled(text, dice):
    """Texts that are nearly a text: a sign, a word, a line put in, left out, twice, exchanged."""
    for at in range(len(text)):
        yield text[:at] + text[at + 1:]
        yield text[:at] + text[at] + text[at:]
        yield text[:at] + dice.choice(SIGNS) + text[at + 1:]
        yield text[:at] + dice.choice(SIGNS) + text[at:]
        yield text[:at] + text[at:at + 2][::-1] + text[at + 2:]
        yield text[:at]
        yield text[at:]
    for gap in (" ", "\n", ",", ";"):
        parts = text.split(gap)
        for at, part in enumerate(parts):
            yield gap.join(parts[:at] + parts[at + 1:])
            yield gap.join(parts[:at] + [part] + parts[at:])
            yield gap.join(parts[:at] + [dice.choice(parts)] + parts[at:])
            yield gap.join(parts[:at] + parts[at:at + 2][::-1] + parts[at + 2:])
    yield from (text + "\n", text + " ", " " + text, "\n" + text, text.upper(), text + text, text.replace("\n", ""), text.replace("\n", "\n\n"))


class ReadBack(unittest.TestCase):
    def test_books(self):
        for book in SOME_BOOKS:
            self.assertTrue(is_book(book))
            self.assertEqual(read_book(show_book(book)), book)

    def test_must_is_a_truth(self):
        (first, other), bounds = read_book("wishes\na 1 must\nb 1\nbounds\n")
        self.assertIs(first[2], True)
        self.assertIs(other[2], False)

    def test_letters(self):
        for letter in SOME_LETTERS:
            self.assertTrue(is_letter(letter), letter)
            self.assertEqual(read_letter(show_letter(letter)), letter)

    def test_deeds(self):
        for deed in SOME_DEEDS:
            self.assertEqual(read_deed(show_deed(deed)), deed)

    def test_talks(self):
        for many in (0, 1, 2, len(SOME_DEEDS)):
            self.assertEqual(read_talk(show_talk(SOME_DEEDS[:many])), SOME_DEEDS[:many])

    def test_whether_a_talk_can_be_done_is_not_asked(self):
        self.assertEqual(read_talk("close a\ncome 9999999999\nopen b\nopen b\n"), [("close", "a"), ("come", 9999999999), ("open", "b"), ("open", "b")])
        self.assertEqual(len(read_talk("tick a\n" * 2857)), 2857)

    def test_talks_and_letters_of_led_wires(self):
        for seed in range(40):
            dice = random.Random(seed)
            wire = Wire(dice.choice(BOOKS), dice.choice(BOOKS))
            lead(dice, wire, 60, SMALL_WISHES)
            self.assertEqual(read_talk(show_talk(wire.deeds())), wire.deeds())
            for to, letter in wire.air():
                self.assertEqual(read_letter(show_letter(letter)), letter)

    def test_names_that_are_words_of_the_texts(self):
        for kind in TEXTS_WORDS:
            for needed in TEXTS_WORDS:
                for must in (True, False):
                    wishes = (wish(needed, (0,)), wish(kind, (1, 2), must, (needed, 0)))
                    if kind != needed:
                        book = (wishes, ((kind, (3,)), (needed, (4,))))
                        self.assertEqual(read_book(show_book(book)), book)
                        self.assertEqual(read_deed(show_deed(("wish", "a", wishes))), ("wish", "a", wishes))
            for word in WORDS[:4]:
                letter = (kind, word, 1, 1, 1, ((kind, 1),))
                self.assertEqual(read_letter(show_letter(letter)), letter)

    def test_plain_kinds_and_the_askers_own(self):
        talk = read_talk("open a\nwish b\n")
        talk.append(None)
        self.assertEqual(read_talk("open a\nwish b\n"), [("open", "a"), ("wish", "b", ())])


class Refused(unittest.TestCase):
    def refuses(self, read, text, line):
        with self.assertRaises(NoText, msg=repr(text)[:200]) as caught:
            read(text)
        self.assertEqual(caught.exception.line, line, repr(text)[:200])
        self.assertIs(type(caught.exception.line), type(line))

    def test_what_is_no_text(self):
        for read in (read_book, read_letter, read_deed, read_talk):
            for thing in STRANGE + [b"open a", ["open a"], ("open a",), 0]:
                if not isinstance(thing, str):
                    self.refuses(read, thing, None)

    def test_texts_that_end_too_early(self):
        self.refuses(read_book, "", 0)
        self.refuses(read_book, "wishes\n", 1)
        self.refuses(read_book, "wishes\na 1\nb 1\n", 3)

    def test_lines_without_a_line_end(self):
        self.refuses(read_book, "wishes", 0)
        self.refuses(read_book, "wishes\nbounds", 1)
        self.refuses(read_book, "wishes\na 1", 1)
        self.refuses(read_book, "wishes\nbounds\na 1", 2)
        self.refuses(read_talk, "open a", 0)
        self.refuses(read_talk, "open a\nopen b", 1)
        self.refuses(read_talk, "open a\nopen", 1)

    def test_too_many_line_ends(self):
        self.refuses(read_book, "\nwishes\nbounds\n", 0)
        self.refuses(read_book, "wishes\n\nbounds\n", 1)
        self.refuses(read_book, "wishes\nbounds\n\n", 2)
        self.refuses(read_talk, "\n", 0)
        self.refuses(read_talk, "open a\n\nopen b\n", 1)
        self.refuses(read_talk, "open a\n\n", 1)
        for read, text in ((read_letter, "a bye 1 0 0"), (read_deed, "open a"), (read_deed, "wish a a 1;")):
            read(text)
            self.refuses(read, text + "\n", 0)
            self.refuses(read, "\n" + text, 0)
            self.refuses(read, text + "\n" + text, 0)

    def test_the_first_wrong_line(self):
        self.refuses(read_book, "Wishes\nx\n", 0)
        self.refuses(read_book, "wishes\nx\ny\n", 1)
        self.refuses(read_book, "wishes\na 1\nbounds\nx\nbounds\n", 3)
        self.refuses(read_book, "wishes\na 1\nwishes\nbounds\n", 2)
        self.refuses(read_book, "wishes\nbounds\nbounds\n", 2)
        self.refuses(read_book, "bounds\nwishes\n", 0)
        self.refuses(read_talk, "open a\nopen c\nopen d\n", 1)
        # A wish's line among the bounds, and words that stand in another order.
        self.refuses(read_book, "wishes\nbounds\na 1 must\n", 2)
        self.refuses(read_book, "wishes\na 1\nb 1 if a 1 must\nbounds\n", 2)

    def test_kinds_twice(self):
        self.refuses(read_book, "wishes\na 1\nb 1\na 2\nbounds\n", 3)
        self.refuses(read_book, "wishes\nbounds\na 1\nb 1\na 2\nc 1\n", 4)
        self.assertEqual(read_book("wishes\na 1\nbounds\na 1\n")[1], (("a", (1,)),))
        self.refuses(read_deed, "wish a a 1; a 2;", 0)
        self.refuses(read_letter, "a ask 1 0 1 x=1 x=2", 0)

    def test_needs_of_kinds_behind(self):
        self.refuses(read_book, "wishes\na 1 if b 1\nb 1\nbounds\n", 1)
        self.refuses(read_book, "wishes\na 1 if a 1\nbounds\n", 1)
        self.refuses(read_book, "wishes\na 1\nb 1 must if c 1\nbounds\n", 2)
        self.refuses(read_deed, "wish a a 1 if b 1; b 1;", 0)

    def test_too_many(self):
        wishes = "".join([f"{kind} 1\n" for kind in "abcdef"])
        bounds = "".join([f"{kind} 1\n" for kind in "abcdefgh"])
        read_book("wishes\n" + wishes + "bounds\n" + bounds)
        self.refuses(read_book, "wishes\n" + wishes + "g 1\nbounds\n", 7)
        self.refuses(read_book, "wishes\nbounds\n" + bounds + "i 1\n", 10)
        read_book("wishes\na 1,2,3,4,5,6\nbounds\na 1,2,3,4,5,6\n")
        self.refuses(read_book, "wishes\na 1,2,3,4,5,6,7\nbounds\n", 1)
        self.refuses(read_book, "wishes\nbounds\na 1,2,3,4,5,6,7\n", 2)
        self.refuses(read_book, "wishes\na 1,2,1\nbounds\n", 1)
        read_letter("a ask 1 0 1 a=1 b=1 c=1 d=1 e=1 f=1")
        self.refuses(read_letter, "a ask 1 0 1 a=1 b=1 c=1 d=1 e=1 f=1 g=1", 0)
        read_deed("wish a a 1; b 1; c 1; d 1; e 1; f 1;")
        self.refuses(read_deed, "wish a a 1; b 1; c 1; d 1; e 1; f 1; g 1;", 0)

    def test_numbers(self):
        for number in ("", "00", "01", "007", "-1", "+1", " 1", "1 ", "1_0", "1.0", "a", "12345678901", "00000000001", "0x1"):
            self.refuses(read_deed, f"come {number}", 0)
            self.refuses(read_letter, f"a ask {number} 0 1", 0)
            self.refuses(read_letter, f"a ask 1 {number} 1", 0)
            self.refuses(read_letter, f"a ask 1 0 {number}", 0)
            self.refuses(read_letter, f"a ask 1 0 1 x={number}", 0)
            self.refuses(read_book, f"wishes\nx {number}\nbounds\n", 1)
            self.refuses(read_book, f"wishes\nx 1,{number}\nbounds\n", 1)
            self.refuses(read_book, f"wishes\nx 1\ny 1 if x {number}\nbounds\n", 2)
            self.refuses(read_book, f"wishes\nbounds\nx {number}\n", 2)
        self.refuses(read_book, "wishes\nx 10000\nbounds\n", 1)
        self.refuses(read_letter, "a ask 1 0 1 x=10000", 0)
        self.assertEqual(read_deed("back 1234567890"), ("back", 1234567890))

    def test_eleven_figures_are_written_and_not_read(self):
        self.refuses(read_letter, show_letter(("a", "ask", 10 ** 10, 0, 1, ())), 0)
        self.refuses(read_talk, show_talk([("open", "a"), ("come", 10 ** 10)]), 1)

    def test_letters_that_are_none(self):
        for text in (
            "", " ", "a", "a ask", "a ask 1 0", "ask 1 0 1", "a ask 0 0 1", "a ask 1 0 0", "a bye 1 0 1", "a bye 1 0 0 x=1", "a asks 1 0 1",
            "A ask 1 0 1", "abcdefghi ask 1 0 1", "a  ask 1 0 1", "a ask 1 0 1 ", " a ask 1 0 1", "a ask 1 0 1 x", "a ask 1 0 1 x=",
            "a ask 1 0 1 =1", "a ask 1 0 1 x=1=1", "a ask 1 0 1  x=1", "a ask 1 0 1 x=1,y=1", "a ask 1 0 1 x 1", "a,ask,1,0,1", "a open 1 0 1",
        ):
            self.refuses(read_letter, text, 0)

    def test_deeds_that_are_none(self):
        for text in (
            "", " ", "open", "open ", "open  a", " open a", "open a ", "open c", "open aa", "open 0", "open a b", "Open a", "come a", "come",
            "come 0 0", "echo 0", "settle", "wish", "wish ", "wish c", "wish a ", "wish a;", "wish a ;", "wish a a 1", "wish a a 1; ",
            "wish a a 1;;", "wish a a 1;b 1;", "wish a  a 1;", "wish a a 1; b 1", "wish a a 1 ;", "wisha a 1;", "wish a a;", "wish a a 1 must ;",
            "wish a a 1 if;", "wish a a 1; b 1 if a;", "wish a a 1; b 1 if a 1 2;", "wish a a 1 must must;", "wish a a 1 may;",
        ):
            self.refuses(read_deed, text, 0)
            self.refuses(read_talk, f"open a\n{text}\n", 1)

    def test_texts_of_any_sort(self):
        for read in (read_book, read_letter, read_deed):
            for text in ("~" * 20000, "\n" * 20000, "0" * 20000, " " * 20000, "None", "\t", "wishes\r\nbounds\r\n"):
                self.refuses(read, text, 0)


class Spoiled(unittest.TestCase):
    """Each reader beside another one, written for the tests by other means, at texts that are nearly right."""

    def looks(self, read, text, dice, counts):
        due = DUE[read]
        self.assertEqual(due(text)[0], "read", text)
        for other in spoiled(text, dice):
            came = told(read, other)
            self.assertEqual(came, due(other), repr(other))
            counts[came[0]] = counts.get(came[0], 0) + 1

    def test_books(self):
        counts = {}
        for at, book in enumerate(SOME_BOOKS):
            self.looks(read_book, show_book(book), random.Random(at), counts)
        self.assertGreater(min(counts["read"], counts["line"]), 500)

    def test_letters(self):
        counts = {}
        for at, letter in enumerate(SOME_LETTERS):
            self.looks(read_letter, show_letter(letter), random.Random(at), counts)
        self.assertGreater(min(counts["read"], counts["line"]), 500)

    def test_deeds(self):
        counts = {}
        for at, deed in enumerate(SOME_DEEDS):
            self.looks(read_deed, show_deed(deed), random.Random(at), counts)
        self.assertGreater(min(counts["read"], counts["line"]), 200)

    def test_talks(self):
        counts = {}
        for seed in range(12):
            dice = random.Random(seed)
            self.looks(read_talk, show_talk(dice.sample(SOME_DEEDS, 6)), dice, counts)
        self.assertGreater(min(counts["read"], counts["line"]), 200)

    def test_whatever_wishes_and_bounds(self):
        for seed in range(300):
            dice = random.Random(seed)
            kinds = [dice.choice(("a", "b", "c", "must", "if", "bounds", "A", "")) for line in range(dice.randrange(4))]
            lines = [f"{kind} {dice.randrange(3)}" + dice.choice(("", " must", " if a 1", " must if b 1", ",1")) for kind in kinds]
            lines.insert(dice.randrange(len(lines) + 1), "bounds")
            text = "\n".join(["wishes"] + lines) + dice.choice(("\n", "\n", "\n", ""))
            self.assertEqual(told(read_book, text), due_of_book(text), repr(text))


if __name__ == "__main__":
    unittest.main()
