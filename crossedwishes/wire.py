"""A wire: two ends, and the letters in the air between them.

How a wire stands is a state, a tuple (ends, air) of tuples alone, so that whoever keeps one needs no copy of it.
"""

from crossedwishes.ends import closing, new_end, opened, ticked, wished
from crossedwishes.errors import NoBack, NoDeed, NoLetter, TooMany
from crossedwishes.hearing import as_lesser_hears, heard, stands_open_with
from crossedwishes.letters import is_from
from crossedwishes.plain import has_parts
from crossedwishes.texts import show_wire
from crossedwishes.wishes import are_wishes

NAMES = ("a", "b")

# The deeds but wish, by what stands behind their word: the name of an end, or the number of a letter.
END_DEEDS = ("open", "close", "tick")
LETTER_DEEDS = ("come", "lost", "twice", "back")

# Where so many letters are in the air none is doubled any more.
MANY_LETTERS = 100


class Wire:
    """Two ends, each with a book, and the letters between them."""

    def __init__(self, one, other, *, tries=3):
        self.books = (one, other)
        self.most_tries = tries
        self.state = new_state(one, other)
        # Each deed done, with the state ahead of it.
        self.past = []
        self.busy = False

    def do(self, deed):
        """Does a deed; tells whose stand is otherwise behind it, and how it is."""
        was = self.busy
        self.busy = True
        try:
            if not is_deed(deed):
                raise NoDeed()
            before = self.state
            self.state = state_behind(before, deed, bounds_of(self.books), self.most_tries)
            self.past.append((deed, before))
            return brought(before[0], self.state[0])
        finally:
            self.busy = was

    def back(self):
        """Takes back the last deed."""
        if not self.past:
            raise NoBack()
        deed, before = self.past.pop()
        self.state = before

    def settle(self):
        """Lets all letters come till both ends are open for one another or closed; tells how many came."""
        was = self.busy
        self.busy = True
        try:
            came = 0
            while not is_settled(self.state):
                if self.state[1]:
                    self.do(("come", 0))
                    came += 1
                else:
                    self.tick_both()
            return came
        finally:
            self.busy = was

    def tick_both(self):
        """Ticks each end that isn't closed."""
        for at, name in enumerate(NAMES):
            if not is_closed(self.state[0][at]):
                self.do(("tick", name))

    def ends(self):
        """Both ends."""
        return self.state[0]

    def air(self):
        """The letters in the air, each with the name of the end it is for."""
        return list(self.state[1])

    def deeds(self):
        """The deeds done since the wire was made."""
        return [deed for deed, before in self.past]

    def stands(self):
        """How both ends stand together, and what was agreed."""
        return stand_of(self.state[0])

    def saved(self):
        """All that the wire can be made of again, but its deeds."""
        return (*self.books, self.most_tries, *self.state)

    def twin(self):
        """A wire that stands as this one, with its deeds."""
        mate = wire_at(self.saved())
        mate.past = list(self.past)
        return mate

    def __len__(self):
        return len(self.state[1])

    def __eq__(self, other):
        return isinstance(other, Wire) and self.saved() == other.saved()

    def __str__(self):
        return str(show_wire(self))

    def __repr__(self):
        return str(short_of(self.state))


def wire_at(saved):
    """A wire that stands as what was saved tells, without deeds."""
    one, other, tries, ends, air = saved
    wire = Wire(one, other, tries=tries)
    wire.state = (ends, air)
    return wire


def short_of(state):
    """How both ends of a wire stand, and how many letters are in the air."""
    (one, other), air = state
    return f"Wire({one[2]}, {other[2]}, {len(air)})"


def is_deed(thing):
    """Whether a thing is a deed by its word and parts."""
    if has_parts(thing, 3):
        word, who, wishes = thing
        return word == "wish" and who in NAMES and are_wishes(wishes)
    if not has_parts(thing, 2):
        return False
    word, part = thing
    if word in END_DEEDS:
        return part in NAMES
    return word in LETTER_DEEDS and is_from(part, 0)


def new_state(one, other):
    """The state of a wire with these books that nothing was done on."""
    ends = tuple([new_end(name, book[0]) for name, book in zip(NAMES, (one, other))])
    return (ends, ())


def bounds_of(books):
    """The bounds of both books."""
    return tuple([book[1] for book in books])


def state_behind(state, deed, bounds, tries, *, lesser=False):
    """The state behind a deed, with the bounds of both ends; lesser ends look at no number of asks."""
    ends, air = state
    word, part = deed[:2]
    if word not in LETTER_DEEDS:
        return with_told(state, part, told_at(ends[NAMES.index(part)], deed, tries))
    if part >= len(air):
        raise NoLetter(part)
    to, letter = air[part]
    if word == "twice":
        return with_twin(state, (to, letter))
    rest = (ends, air[:part] + air[part + 1:])
    if word == "lost":
        return rest
    who = to if word == "come" else writer_of(to, letter)
    at = NAMES.index(who)
    due = as_lesser_hears(ends[at], letter) if lesser else letter
    return with_told(rest, who, heard(ends[at], due, bounds[at], tries=tries))


def told_at(end, deed, tries):
    """What the event of a deed tells at its end."""
    word = deed[0]
    if word == "open":
        return opened(end, tries=tries)
    if word == "close":
        return closing(end)
    if word == "tick":
        return ticked(end)
    return wished(end, deed[2], tries=tries)


def with_told(state, who, told):
    """A state with an end as an event told it, and the letters written there at the air's end."""
    ends, air = state
    end, letters = told
    now = tuple([end if name == who else mate for name, mate in zip(NAMES, ends)])
    return (now, air + tuple([(other_name(who), letter) for letter in letters]))


def with_twin(state, flying):
    """A state with one more of a letter in the air."""
    ends, air = state
    if len(air) >= MANY_LETTERS:
        raise TooMany()
    return (ends, (*air, flying))


def other_name(who):
    """The name of the other end."""
    return NAMES[1] if who == NAMES[0] else NAMES[0]


def writer_of(to, letter):
    """The name of the end that wrote a letter; one of a third name is taken as the other's."""
    return letter[0] if letter[0] in NAMES else other_name(to)


def is_closed(end):
    """Whether an end is closed."""
    return end[2] == "closed"


def are_closed(ends):
    """Whether all of these ends are closed."""
    return all([is_closed(end) for end in ends])


def is_settled(state):
    """Whether both ends are closed, or open for one another with nothing in the air."""
    ends, air = state
    return are_closed(ends) or not air and stands_open_with(ends[0], ends[1])


def stand_of(ends):
    """How two ends stand together, and what was agreed."""
    one, other = ends
    if stands_open_with(one, other):
        return ("open", one[8], other[8])
    return ("closed",) if are_closed(ends) else ("else",)


def unlike_places(air):
    """The places in the air of all unlike letters, of each the first."""
    return [k for k, flying in enumerate(air) if flying not in air[:k]]


def mark_of(state):
    """What tells states apart where the order of the letters in the air is nothing."""
    ends, air = state
    return (ends, tuple(sorted(air)))


def brought(before, now):
    """A tuple (name, stand) for each end that stands otherwise now."""
    return [(end[0], end[2]) for old, end in zip(before, now) if end[2] != old[2]]
