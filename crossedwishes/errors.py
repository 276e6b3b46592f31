"""The refusals of the program."""

from crossedwishes.plain import is_whole


class WishError(ValueError):
    """What all refusals of a wrong thing or a wrong time stand under."""


class NotClosed(WishError):
    """An end, or a tower's first layer, would be opened and isn't closed."""


class NotOpen(WishError):
    """An end or a tower would be closed and is closed already."""


class NoDeed(WishError):
    """A thing is no deed by its word and parts."""


class TooMany(WishError):
    """There are more letters or states than are gone through."""


class NoTalk(WishError):
    """A deed of a talk can't be done, or is none; at is its number."""

    def __init__(self, at):
        super().__init__("this deed of the talk can't be done")
        self.at = at


class NoSaved(WishError):
    """A thing is nothing that a wire has saved."""


class NoText(WishError):
    """A text isn't written as it must be; line is the number of the first wrong line, or None."""

    def __init__(self, line):
        super().__init__("this isn't written as it must be")
        self.line = line


class NoLine(WishError):
    """A desk was told what is none of its lines."""


class NoLetter(LookupError):
    """There aren't so many letters in the air; k is the number asked for, None of what is no number."""

    def __init__(self, k):
        super().__init__("there is no such letter in the air")
        self.k = k if is_whole(k) else None


class NoLayer(LookupError):
    """A tower hasn't this layer; layer is the number asked for, None of what is no number."""

    def __init__(self, layer):
        super().__init__("there is no such layer in the tower")
        self.layer = layer if is_whole(layer) else None


class NoBack(LookupError):
    """There is no deed that could be taken back."""
