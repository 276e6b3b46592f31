import copy
import itertools
import unittest

from crossedwishes.ends import closing, new_end, opened, ticked, wished
from crossedwishes.errors import NotClosed, NotOpen
from crossedwishes.hearing import heard
from crossedwishes.letters import LETTER_WORDS
from crossedwishes.machine import by_rows, row_of
from crossedwishes.rows import are_rows, told_rows
from crossedwishes.wishes import plan_of
from tests.things import ACTS, TESTS, closed_as, part, wish, with_parts

WISHES = (wish("size", (3, 1, 2), True), wish("echo", (1, 4)))
PLAN = plan_of(WISHES)
ASK = (("size", 3), ("echo", 1))
BOUNDS = (("hue", (2, 1)),)
OTHER = (wish("hue", (4, 5)), wish("size", (3, 2), True))

NEW = ("a", WISHES, "closed", 0, 0, 0, (), (), None, 0, None, None, 0, 0, "new")
ASKING = ("a", WISHES, "asking", 2, 5, 2, PLAN, (("ink", -1),), None, 3, None, ("a", "no", 2, 5, 3, (("ink", 1),)), 1, 1, "")
OPEN = with_parts(ASKING, stand="open", given=ASK, took=(("hue", 1),), last=("a", "yes", 2, 5, 3, (("hue", 1),)))
CLOSED = closed_as(OPEN, "bye")

OPENS, CLOSES, TICK, WISH = ("open",), ("close",), ("tick",), ("wish", OTHER)
HERE = ("b", "here", 5, 2, 0, ())
ASKED = ("b", "ask", 5, 2, 4, (("hue", 2),))
YES = ("b", "yes", 5, 2, 2, ASK)
RATHER = ("b", "rather", 5, 2, 2, (("size", 2),))
FAILING = ("b", "no", 5, 2, 2, (("size", 3),))
EVENTS = [OPENS, CLOSES, TICK, WISH, HERE, ASKED, YES, RATHER, FAILING]
LETTERS = [HERE, ASKED, YES, RATHER, FAILING]
WORDS = ("open", "close", "tick", "wish", *LETTER_WORDS)


def plainly(end, event, bounds, tries):
    """What point 13 tells, and nothing where it refuses."""
    try:
        if event == OPENS:
            return opened(end, tries=tries)
        if event == CLOSES:
            return closing(end)
        if event == TICK:
            return ticked(end)
        if len(event) == 2:
            return wished(end, event[1], tries=tries)
        return heard(end, event, bounds, tries=tries)
    except (NotClosed, NotOpen):
        return (end, [])


def word_of(event):
    return event[1] if len(event) == 6 else event[0]


def rows_for(event, *acts):
    """One row, of the event's word, that always holds."""
    return ((word_of(event), (), acts),)


class ByToldRows(unittest.TestCase):
    ROWS = told_rows()

    def same(self, end, event, bounds=BOUNDS, tries=3):
        told = by_rows(self.ROWS, end, event, bounds, tries=tries)
        self.assertEqual(told, plainly(end, event, bounds, tries), (end, event))
        self.assertEqual([type(thing) for thing in (told, *told)], [tuple, tuple, list])
        return told

    def letters(self, turn, yours, pairs):
        for who, word in itertools.product("abz", LETTER_WORDS):
            for mine in sorted({max(1, yours - 1), max(1, yours), yours + 1}):
                for mate in sorted({0, turn, turn + 1}):
                    if word in ("bye", "here", "there"):
                        yield (who, word, mine, mate, 0, ())
                        continue
                    for number, some in itertools.product((1, 2, 3, 4), pairs):
                        yield (who, word, mine, mate, number, some)

    def test_all_ends_come_to_by_few_events_and_each_letter(self):
        wishes = (wish("a", (1, 2), True), wish("b", (3,)))
        bounds = (("c", (1, 2)),)
        pairs = ((), (("a", 1), ("b", 3)), (("a", 2),), (("b", 3),), (("b", 4),), (("c", 1),), (("c", 7),))
        others = [(), (wish("a", (1,), True),), (wish("b", (3, 4)), wish("a", (5,), True, ("b", 4)))]
        seen = {new_end("a", wishes): 1}
        ends = list(seen)
        while ends and len(seen) < 600:
            end = ends.pop(0)
            events = [OPENS, CLOSES, TICK] + [("wish", other) for other in others]
            events.extend(self.letters(part(end, "turn"), part(end, "yours"), pairs))
            for event in events:
                now, letters = self.same(end, event, bounds, 2)
                if now not in seen:
                    seen[now] = True
                    ends.append(now)
        self.assertGreater(len(seen) - len(ends), 40)
        self.assertEqual({part(end, "stand") for end in seen}, {"closed", "asking", "open"})

    def test_the_ends_here_at_every_event(self):
        for end in (NEW, CLOSED, ASKING, OPEN, with_parts(OPEN, tries=0), with_parts(ASKING, tries=0, echoes=2)):
            for event in EVENTS:
                for tries in (1, 3, 9):
                    self.same(end, event, tries=tries)

    def test_the_ends_here_and_each_letter(self):
        pairs = ((), ASK, ASK[:1], ASK[1:], (("size", 2),), (("echo", 4),), (("hue", 1),), (("hue", 7),))
        ends = [NEW, CLOSED, ASKING, OPEN]
        ends.extend([with_parts(end, echoes=2) for end in (CLOSED, ASKING, OPEN)])
        # Of these the last worth of a wish that must be is asked.
        ends.extend([with_parts(end, plan=(("size", (3,)), ("echo", (1,)))) for end in (ASKING, OPEN)])
        for end in ends:
            for letter in self.letters(2, 5, pairs):
                self.same(end, letter)

    def test_nothing_where_it_is_refused(self):
        for end in (ASKING, OPEN):
            self.assertEqual(by_rows(self.ROWS, end, OPENS, BOUNDS), (end, []))
        for end in (NEW, CLOSED):
            self.assertEqual(by_rows(self.ROWS, end, CLOSES, BOUNDS), (end, []))

    def test_three_tries_where_they_are_not_told(self):
        self.assertEqual(part(by_rows(self.ROWS, NEW, OPENS, BOUNDS)[0], "tries"), 3)
        self.assertEqual(part(by_rows(self.ROWS, NEW, OPENS, BOUNDS, tries=7)[0], "tries"), 7)

    def test_a_who_that_is_called_as_an_event_is(self):
        for who in ("open", "close", "tick", "wish", "ask", "bye"):
            for end in (NEW, CLOSED, ASKING, OPEN):
                for letter in LETTERS:
                    self.same(end, (who, *letter[1:]))
            end = with_parts(OPEN, name=who)
            self.same(end, (who, *ASKED[1:]))
            self.assertEqual(part(by_rows(self.ROWS, end, (who, *ASKED[1:]), BOUNDS)[0], "echoes"), 2)


class Rows(unittest.TestCase):
    def test_the_first_row_whose_tests_hold(self):
        rows = (
            ("tick", (), ("here",)), ("close", ("closed",), ("echo",)), ("close", ("open", "not given"), ("full",)),
            ("close", ("open",), ("less",)), ("close", (), ("there",)), ("close", (), ("echo",)),
        )
        self.assertEqual(by_rows(rows, CLOSED, CLOSES, BOUNDS), (with_parts(CLOSED, echoes=2), []))
        self.assertEqual(by_rows(rows, OPEN, CLOSES, BOUNDS), (with_parts(OPEN, tries=0), []))
        self.assertEqual(by_rows(rows, ASKING, CLOSES, BOUNDS), (ASKING, [("a", "there", 2, 5, 0, ())]))
        self.assertEqual([row_of(rows, end, CLOSES, BOUNDS) for end in (CLOSED, OPEN, ASKING)], [1, 3, 4])

    def test_no_such_row(self):
        for end in (NEW, CLOSED, ASKING, OPEN):
            for event in EVENTS:
                others = tuple([(word, (), ("echo",)) for word in WORDS if word != word_of(event)])
                for rows in ((), others, others + ((word_of(event), ("own", "not own"), ("echo",)),)):
                    self.assertEqual(by_rows(rows, end, event, BOUNDS), (end, []))
                    self.assertIsNone(row_of(rows, end, event, BOUNDS))

    def test_a_row_without_acts_is_its_row(self):
        rows = (("tick", (), ()), ("tick", (), ("echo",)))
        self.assertEqual(by_rows(rows, OPEN, TICK, BOUNDS), (OPEN, []))
        self.assertEqual(row_of(rows, OPEN, TICK, BOUNDS), 0)

    def test_the_number_of_the_row(self):
        rows = tuple([("tick", ("not given",), ())] * 59 + [("tick", ("given",), ())])
        told = row_of(rows, OPEN, TICK, BOUNDS)
        self.assertEqual((told, type(told)), (59, int))
        self.assertEqual(row_of(rows, ASKING, TICK, BOUNDS), 0)
        self.assertIsNone(row_of(rows, ASKING, CLOSES, BOUNDS))

    def test_a_letters_word_is_its_own(self):
        rows = (("wish", (), ("echo",)), ("here", (), ("full",)))
        letter = ("wish", "here", 5, 2, 0, ())
        self.assertEqual(row_of(rows, OPEN, letter, BOUNDS), 1)
        self.assertEqual(row_of(rows, OPEN, WISH, BOUNDS), 0)
        self.assertIsNone(row_of(rows, OPEN, ("here", "bye", 5, 2, 0, ()), BOUNDS))
        self.assertEqual(by_rows(rows, OPEN, letter, BOUNDS), (with_parts(OPEN, tries=3), []))


class Tests(unittest.TestCase):
    def holds(self, test, end, event):
        """Whether a test holds; turned about it must be the other way."""
        told = []
        for name in (test, "not " + test):
            rows = ((word_of(event), (name,), ("echo",)),)
            self.assertIs(are_rows(rows), True)
            number = row_of(rows, end, event, BOUNDS)
            self.assertIn(number, (0, None))
            changed = by_rows(rows, end, event, BOUNDS)[0] != end
            self.assertEqual(changed, number == 0)
            told.append(changed)
        self.assertNotEqual(told[0], told[1])
        return told[0]

    def only(self, test, event, yes, no):
        for end in yes:
            self.assertTrue(self.holds(test, end, event), (test, end))
        for end in no:
            self.assertFalse(self.holds(test, end, event), (test, end))

    def test_of_the_end_alone(self):
        for event in EVENTS:
            self.only("closed", event, [NEW, CLOSED], [ASKING, OPEN])
            self.only("open", event, [OPEN], [NEW, CLOSED, ASKING])
            self.only("given", event, [OPEN, with_parts(ASKING, given=())], [NEW, CLOSED, ASKING])
            self.only("third", event, [with_parts(end, echoes=many) for end in (OPEN, CLOSED) for many in (2, 3)],
                      [NEW, ASKING, with_parts(OPEN, echoes=0)])
            self.only("tries", event, [OPEN, ASKING], [NEW, CLOSED, with_parts(OPEN, tries=0)])

    def test_letters_who(self):
        for end in (NEW, CLOSED, ASKING, OPEN):
            for letter in LETTERS:
                self.assertFalse(self.holds("own", end, letter))
                self.assertTrue(self.holds("own", end, ("a", *letter[1:])))

    def test_opening_numbers(self):
        for end in (CLOSED, ASKING, OPEN):
            for word in ("bye", "there"):
                for mine, told in ((4, (True, False)), (5, (False, False)), (6, (False, True))):
                    letter = ("b", word, mine, 2, 0, ())
                    self.assertEqual((self.holds("elder", end, letter), self.holds("newer", end, letter)), told)
                for yours in (0, 1, 2, 3):
                    self.assertEqual(self.holds("mine", end, ("b", word, 5, yours, 0, ())), yours == 2)
        self.assertFalse(self.holds("mine", NEW, ("b", "bye", 5, 0, 0, ())))
        self.assertFalse(self.holds("mine", NEW, ("b", "bye", 5, 1, 0, ())))
        self.assertTrue(self.holds("newer", NEW, ("b", "bye", 1, 0, 0, ())))

    def test_numbers(self):
        for number, late, same in ((1, True, False), (2, True, False), (3, False, True), (4, False, False)):
            for word in ("ask", "yes", "no", "rather"):
                for end in (ASKING, OPEN):
                    letter = ("b", word, 5, 2, number, ())
                    self.assertEqual((self.holds("late", end, letter), self.holds("heard", end, letter)), (late, same))
                    self.assertEqual(self.holds("its", end, letter), number == 2)
        for end in (NEW, CLOSED):
            self.assertEqual([self.holds(test, end, HERE) for test in ("late", "heard", "its")], [False, True, True])
            self.assertEqual([self.holds(test, end, ASKED) for test in ("late", "heard", "its")], [False, False, False])

    def test_what_an_answer_comes_to(self):
        for letter, told in (
            (YES, (True, False, False)), (RATHER, (False, True, False)), (FAILING, (False, False, True)),
            (("b", "no", 5, 2, 2, (("echo", 1),)), (False, True, False)), (("b", "yes", 5, 2, 2, ()), (False, False, False)),
            (("b", "no", 5, 2, 2, (("echo", 4),)), (False, False, False)), (("b", "ask", 5, 2, 2, ASK), (False, False, False)),
            (HERE, (False, False, False)), (("z", "yes", 1, 9, 77, ASK), (True, False, False)),
        ):
            for end in (ASKING, OPEN):
                self.assertEqual(tuple([self.holds(test, end, letter) for test in ("agreed", "planned", "failed")]), told)

    def test_of_a_closed_end_none_of_these(self):
        for end in (NEW, CLOSED, with_parts(CLOSED, wishes=())):
            for letter in LETTERS + [("b", "yes", 5, 2, 1, ())]:
                for test in ("agreed", "planned", "failed"):
                    self.assertFalse(self.holds(test, end, letter))

    def test_must(self):
        wishes = [
            (wish("ink", (1, 2), True),), (wish("a"), wish("ink", (1,), True, ("a", 7))), (wish("ink"),), (wish("size", (3,), True),), (),
        ]
        for end in (ASKING, OPEN):
            self.assertEqual([self.holds("must", end, ("wish", some)) for some in wishes], [True, True, False, False, False])
        end = with_parts(OPEN, refused=(("size", 3),))
        self.assertEqual([self.holds("must", end, ("wish", some)) for some in wishes], [False, False, False, True, False])
        for end in (NEW, CLOSED):
            self.assertEqual([self.holds("must", end, ("wish", some)) for some in wishes], [False] * 5)

    def test_where_the_event_has_no_letter_or_no_wishes(self):
        for end in (NEW, CLOSED, ASKING, OPEN):
            for event in (OPENS, CLOSES, TICK, WISH):
                for test in ("own", "elder", "newer", "mine", "late", "heard", "its", "agreed", "planned", "failed"):
                    self.assertFalse(self.holds(test, end, event))
            for event in [OPENS, CLOSES, TICK] + LETTERS:
                self.assertFalse(self.holds("must", with_parts(end, refused=(("size", -1),)), event))

    def test_each_test_is_known(self):
        for test in TESTS:
            for end in (NEW, OPEN):
                for event in EVENTS:
                    self.holds(test, end, event)

    def test_all_must_hold(self):
        rows = (("here", ("open", "mine", "not own", "not elder", "not newer", "given", "tries", "not third", "not its"), ("echo",)),)
        self.assertEqual(row_of(rows, OPEN, HERE, BOUNDS), 0)
        for end, letter in ((ASKING, HERE), (OPEN, ("a", *HERE[1:])), (OPEN, (*HERE[:3], 1, 0, ())), (with_parts(OPEN, tries=0), HERE)):
            self.assertIsNone(row_of(rows, end, letter, BOUNDS))


class Acts(unittest.TestCase):
    def act(self, act, end, event, now, *letters, tries=3):
        rows = rows_for(event, *(act if isinstance(act, tuple) else (act,)))
        self.assertIs(are_rows(rows), True)
        self.assertEqual(by_rows(rows, end, event, BOUNDS, tries=tries), (now, list(letters)), (act, end, event))

    ALL = (NEW, CLOSED, ASKING, OPEN)

    def test_turn(self):
        for end, event in itertools.product(self.ALL, EVENTS):
            self.act("turn", end, event, with_parts(end, turn=part(end, "turn") + 1, echoes=0))

    def test_learn(self):
        for end in self.ALL:
            for mine in (1, 5, 9):
                self.act("learn", end, ("z", "here", mine, 0, 0, ()), with_parts(end, yours=mine))
            for event in (OPENS, CLOSES, TICK, WISH):
                self.act("learn", end, event, end)

    def test_anew(self):
        for end, event in itertools.product(self.ALL, EVENTS):
            for tries in (1, 9):
                kept = {name: part(end, name) for name in ("turn", "yours", "echoes")}
                now = with_parts(("a", WISHES, "asking", 0, 0, 1, PLAN, (), None, 0, None, None, tries, 0, ""), **kept)
                self.act("anew", end, event, now, tries=tries)

    def test_ask(self):
        for event in EVENTS:
            for end in (ASKING, OPEN):
                self.act("ask", end, event, end, ("a", "ask", 2, 5, 2, ASK))
            for end in (NEW, CLOSED):
                self.act("ask", end, event, end)

    def test_here_and_there(self):
        for end, event in itertools.product(self.ALL, EVENTS):
            for word in ("here", "there"):
                self.act(word, end, event, end, ("a", word, part(end, "turn"), part(end, "yours"), 0, ()))

    def test_bye(self):
        for event in EVENTS:
            for end in (ASKING, OPEN):
                self.act("bye", end, event, end, ("a", "bye", 2, 5, 0, ()))

    def test_bye_of_a_closed_end(self):
        for event in (OPENS, CLOSES, TICK, WISH):
            self.act("bye", NEW, event, NEW)
            self.act("bye", CLOSED, event, CLOSED)
        for who, word, mine, yours in itertools.product("ab", ("bye", "here"), (1, 8), (0, 2, 3)):
            letter = (who, word, mine, yours, 0, ())
            self.act("bye", CLOSED, letter, CLOSED, ("a", "bye", 2, mine, 0, ()))
            self.act("bye", NEW, letter, NEW, ("a", "bye", 0, mine, 0, ()))

    def test_answer(self):
        for end in (ASKING, OPEN):
            yes = ("a", "yes", 2, 5, 4, (("hue", 2),))
            self.act("answer", end, ASKED, with_parts(end, heard=4, took=(("hue", 2),), last=yes), yes)
            no = ("a", "no", 2, 5, 2, ASK)
            self.act("answer", end, YES, with_parts(end, stand="asking", heard=2, took=None, last=no), no)
            rather = ("a", "rather", 2, 5, 1, (("hue", 2),))
            self.act("answer", end, ("z", "no", 1, 9, 1, (("hue", 8),)),
                     with_parts(end, stand="asking", heard=1, took=None, last=rather), rather)
            bare = ("a", "yes", 2, 5, 0, ())
            self.act("answer", end, HERE, with_parts(end, heard=0, took=(), last=bare), bare)

    def test_answer_of_a_closed_end_and_without_a_letter(self):
        for event in EVENTS:
            for end in (NEW, CLOSED):
                self.act("answer", end, event, end)
        for event in (OPENS, CLOSES, TICK, WISH):
            for end in (ASKING, OPEN):
                self.act("answer", end, event, end)

    def test_last(self):
        for event in EVENTS:
            for end in (ASKING, OPEN):
                self.act("last", end, event, end, part(end, "last"))
                fresh = with_parts(ASKING, heard=0, took=None, last=None)
                self.act("last", fresh, event, fresh)
            for end in (NEW, CLOSED):
                self.act("last", end, event, end)

    def test_echo(self):
        for end, event in itertools.product(self.ALL, EVENTS):
            self.act("echo", end, event, with_parts(end, echoes=part(end, "echoes") + 1))
            self.act(("echo",) * 4, end, event, with_parts(end, echoes=part(end, "echoes") + 4))

    def test_less(self):
        for event in EVENTS:
            for end in (ASKING, OPEN):
                self.act("less", end, event, with_parts(end, tries=0))
                self.act(("less", "less"), end, event, with_parts(end, tries=0))
                self.act("less", with_parts(end, tries=9), event, with_parts(end, tries=8))
            for end in (NEW, CLOSED):
                self.act("less", end, event, end)
                self.act(("full", "less"), end, event, with_parts(end, tries=4), tries=5)

    def test_full(self):
        for end, event in itertools.product(self.ALL, EVENTS):
            for tries in (1, 9):
                self.act("full", end, event, with_parts(end, tries=tries), tries=tries)

    def test_give(self):
        took = with_parts(ASKING, took=(("hue", 1),))
        for letter in (YES, ("z", "yes", 1, 9, 77, ASK)):
            self.act("give", ASKING, letter, with_parts(ASKING, given=ASK))
            self.act("give", took, letter, with_parts(took, stand="open", given=ASK))
            other = with_parts(OPEN, given=(("size", 2),))
            self.act("give", other, letter, OPEN)
        for event in EVENTS:
            if event != YES:
                self.act("give", ASKING, event, ASKING)
            for end in (NEW, CLOSED):
                self.act("give", end, event, end)
        self.act("give", CLOSED, ("b", "yes", 5, 2, 1, ()), CLOSED)

    def test_plan(self):
        plan = (("size", (2, 1)), ("echo", (1, 4)))
        for end in (ASKING, OPEN):
            now = with_parts(end, plan=plan, refused=(("ink", -1), ("size", 3)), number=3)
            self.act("plan", end, RATHER, now)
            self.act("plan", end, ("z", "rather", 1, 9, 77, (("size", 2),)), now)
            for event in EVENTS:
                if event != RATHER:
                    self.act("plan", end, event, end)
        for end in (NEW, CLOSED):
            for event in EVENTS:
                self.act("plan", end, event, end)

    def test_plan_twice(self):
        # Behind the first one the letter is no answer any more: the told worth is the one that is asked.
        now = with_parts(ASKING, plan=(("size", (2, 1)), ("echo", (1, 4))), refused=(("ink", -1), ("size", 3)), number=3)
        self.act(("plan", "plan"), ASKING, RATHER, now)
        # But a worth that no wish has may be told again.
        letter = ("b", "rather", 5, 2, 2, (("size", 8),))
        now = with_parts(ASKING, plan=(("size", (2,)), ("echo", (1, 4))), refused=(("ink", -1), ("size", 1), ("size", 3)), number=4)
        self.act(("plan", "plan"), ASKING, letter, now)
        self.act(("plan", "plan", "plan"), ASKING, letter, now)

    def test_wish(self):
        plan = (("hue", (4, 5)), ("size", (3, 2)))
        for end in (ASKING, OPEN):
            for tries in (1, 9):
                now = with_parts(end, wishes=OTHER, stand="asking", number=3, plan=plan, given=None, tries=tries)
                self.act("wish", end, WISH, now, tries=tries)
            refused = with_parts(end, refused=(("hue", -1), ("size", 3)))
            now = with_parts(refused, wishes=OTHER, stand="asking", number=3, plan=(("hue", ()), ("size", (2,))), given=None, tries=3)
            self.act("wish", refused, WISH, now)
        for end in (NEW, CLOSED):
            self.act("wish", end, WISH, with_parts(end, wishes=OTHER))
        for end in self.ALL:
            for event in [OPENS, CLOSES, TICK] + LETTERS:
                self.act("wish", end, event, end)

    def test_end(self):
        for end, event in itertools.product(self.ALL, EVENTS):
            for why in ("closed", "tries", "failed", "echo", "bye"):
                self.act("end " + why, end, event, closed_as(end, why))
                self.act(("full", "end " + why), end, event, closed_as(end, why))

    def test_acts_go_in_order_with_the_end_as_it_then_stands(self):
        self.act(("bye", "end bye", "bye", "ask", "here"), OPEN, HERE, CLOSED,
                 ("a", "bye", 2, 5, 0, ()), ("a", "bye", 2, 5, 0, ()), ("a", "here", 2, 5, 0, ()))
        self.act(("bye", "end bye", "bye"), OPEN, TICK, CLOSED, ("a", "bye", 2, 5, 0, ()))
        now = with_parts(CLOSED, stand="asking", turn=3, yours=7, number=1, plan=PLAN, tries=3, echoes=1, why="")
        self.act(("here", "turn", "learn", "anew", "ask", "echo"), CLOSED, ("b", "here", 7, 1, 0, ()), now,
                 ("a", "here", 2, 5, 0, ()), ("a", "ask", 3, 7, 1, ASK))
        self.act(("turn", "turn", "turn"), NEW, OPENS, with_parts(NEW, turn=3))

    def test_the_stand_behind_each_act(self):
        rows = (
            ("yes", ("open",), ("here",)), ("yes", ("closed",), ("there",)), ("yes", ("given",), ("answer", "on")),
            ("yes", (), ("give", "on")),
        )
        wishes = (wish("hue", (1,)),)
        end = with_parts(ASKING, wishes=wishes, plan=plan_of(wishes))
        letter = ("b", "yes", 5, 2, 2, (("hue", 1),))
        now = with_parts(end, stand="open", given=(("hue", 1),), took=(("hue", 1),), heard=2, last=("a", "yes", 2, 5, 2, (("hue", 1),)))
        self.assertEqual(by_rows(rows, end, letter, BOUNDS), (now, [part(now, "last"), ("a", "here", 2, 5, 0, ())]))
        rows = (("ask", ("open",), ("answer", "on")), ("ask", (), ("echo",)))
        letter = ("b", "ask", 5, 2, 4, (("zinc", 1),))
        no = ("a", "no", 2, 5, 4, (("zinc", 1),))
        self.assertEqual(by_rows(rows, OPEN, letter, BOUNDS),
                         (with_parts(OPEN, stand="asking", heard=4, took=None, last=no, echoes=2), [no]))

    def test_each_act_is_known(self):
        for end, event, act in itertools.product(self.ALL, EVENTS, ACTS):
            now, letters = by_rows(rows_for(event, act), end, event, BOUNDS)
            self.assertEqual((len(now), type(letters)), (15, list))


class On(unittest.TestCase):
    def test_it_goes_through_the_rows_anew(self):
        rows = (
            ("tick", ("closed",), ("there",)), ("tick", ("tries",), ("less", "on")), ("tick", (), ("here", "end tries", "on")),
        )
        self.assertEqual(by_rows(rows, with_parts(OPEN, tries=4), TICK, BOUNDS),
                         (closed_as(OPEN, "tries"), [("a", "here", 2, 5, 0, ()), ("a", "there", 2, 5, 0, ())]))

    def test_acts_behind_it_are_never_done(self):
        rows = (("tick", ("closed",), ("there",)), ("tick", (), ("end bye", "on", "echo", "here")))
        self.assertEqual(by_rows(rows, OPEN, TICK, BOUNDS), (CLOSED, [("a", "there", 2, 5, 0, ())]))

    def test_nor_where_there_is_no_such_row(self):
        rows = (("tick", ("open",), ("end bye", "on", "echo", "here", "on")),)
        self.assertEqual(by_rows(rows, OPEN, TICK, BOUNDS), (CLOSED, []))

    def test_nor_where_the_row_has_no_acts(self):
        rows = (("tick", ("closed",), ()), ("tick", ("open",), ("end bye", "on", "echo")))
        self.assertEqual(by_rows(rows, OPEN, TICK, BOUNDS), (CLOSED, []))

    def test_the_tenth_does_nothing_and_the_acts_behind_it_are_done(self):
        # Nine go through the rows, so the acts ahead of it are done ten times, those behind it once.
        rows = (("tick", (), ("echo", "on", "turn", "here")),)
        for end in (NEW, CLOSED, ASKING, OPEN):
            told = by_rows(rows, end, TICK, BOUNDS)
            turn = part(end, "turn") + 1
            self.assertEqual(told, (with_parts(end, turn=turn, echoes=0), [("a", "here", turn, part(end, "yours"), 0, ())]))
        rows = (("tick", (), ("echo", "on")),)
        self.assertEqual(by_rows(rows, NEW, TICK, BOUNDS), (with_parts(NEW, echoes=10), []))

    def test_each_later_one_neither(self):
        rows = (("tick", (), ("echo", "on", "here", "on", "there", "on", "echo")),)
        told = by_rows(rows, NEW, TICK, BOUNDS)
        self.assertEqual(told, (with_parts(NEW, echoes=11), [("a", "here", 0, 0, 0, ()), ("a", "there", 0, 0, 0, ())]))

    def test_each_event_counts_by_itself(self):
        rows = (("tick", (), ("echo", "on")),)
        end = by_rows(rows, NEW, TICK, BOUNDS)[0]
        self.assertEqual(by_rows(rows, end, TICK, BOUNDS), (with_parts(NEW, echoes=20), []))

    def test_row_of_looks_at_the_first_row_alone(self):
        rows = (("tick", ("closed",), ("echo",)), ("tick", (), ("end bye", "on")))
        self.assertEqual(row_of(rows, OPEN, TICK, BOUNDS), 1)


class WhatStays(unittest.TestCase):
    def test_nothing_handed_in_is_changed_and_the_same_is_told_again(self):
        ends = [NEW, CLOSED, ASKING, OPEN]
        own = tuple([(word, (), ("turn", "anew", "ask", "answer", "last", "echo", "plan", "wish", "on")) for word in WORDS])
        before = repr((ends, EVENTS, BOUNDS, own, told_rows()))
        for rows, end, event in itertools.product((told_rows(), own), ends, EVENTS):
            told = by_rows(rows, end, event, BOUNDS)
            kept = copy.deepcopy(told)
            number = row_of(rows, end, event, BOUNDS)
            told[1].append(None)
            self.assertEqual(by_rows(rows, end, event, BOUNDS), kept)
            told[1].clear()
            self.assertEqual(by_rows(rows, end, event, BOUNDS), kept)
            self.assertEqual(row_of(rows, end, event, BOUNDS), number)
        self.assertEqual(repr((ends, EVENTS, BOUNDS, own, told_rows())), before)


if __name__ == "__main__":
    unittest.main()
