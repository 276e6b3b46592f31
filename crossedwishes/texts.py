"""Books, letters, deeds, talks and wires as texts."""


def show_book(book):
    """A book as lines."""
    wishes, bounds = book
    lines = ["wishes", *[show_wish(wish) for wish in wishes], "bounds", *[show_bound(bound) for bound in bounds]]
    return as_lines(lines)


def show_letter(letter):
    """A letter as one line, without a line end."""
    return " ".join([*[str(part) for part in letter[:5]], *[show_pair(pair) for pair in letter[5]]])


def show_deed(deed):
    """A deed as one line, without a line end."""
    if deed[0] != "wish":
        return " ".join([str(part) for part in deed])
    word, who, wishes = deed
    return f"{word} {who}" + "".join([f" {show_wish(wish)};" for wish in wishes])


def show_talk(talk):
    """A talk as lines."""
    return as_lines([show_deed(deed) for deed in talk])


def show_wire(wire):
    """A wire as lines: both ends, then the letters in the air."""
    ends = [show_end(end) for end in wire.ends()]
    return as_lines(ends + [show_flying(to, letter) for to, letter in wire.air()])


def as_lines(lines):
    """Lines as one text, each with a line end behind it."""
    return "".join([line + "\n" for line in lines])


def show_end(end):
    """An end's line in the text of a wire, without the line end."""
    name, wishes, *parts = end
    return " ".join([str(part) for part in (name, *parts[:4])])


def show_flying(to, letter):
    """The line of a letter in the air, without the line end."""
    return f"to {to} {show_letter(letter)}"


def show_wish(wish):
    """A wish by itself."""
    kind, worths, must, needs = wish
    text = show_bound((kind, worths))
    if must:
        text += " must"
    if needs is not None:
        text += f" if {needs[0]} {needs[1]}"
    return text


def show_bound(bound):
    """A kind and its worths."""
    kind, worths = bound
    return kind + " " + ",".join([str(worth) for worth in worths])


def show_pair(pair):
    """A kind and a worth, as letters and desks have them."""
    kind, worth = pair
    return f"{kind}={worth}"
