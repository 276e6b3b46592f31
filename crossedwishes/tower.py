"""Towers: ends with layers, each of which stands open only on an open one beneath."""

from crossedwishes.ends import ended, new_end, opened, parts_of, ticked, wished
from crossedwishes.errors import NoLayer, NotOpen
from crossedwishes.hearing import heard
from crossedwishes.letters import is_from


class Tower:
    """An end with layers, beneath first; its letters are tuples (layer, letter)."""

    def __init__(self, name, books, *, tries=3):
        self.called = name
        self.books = books
        self.most_tries = tries
        self.layers = tuple([new_end(name, book[0]) for book in books])

    def open_up(self):
        """Opens the first layer; tells the letters written."""
        return self.at_layer(0, opened(self.layers[0], tries=self.most_tries))

    def close_down(self):
        """Closes all layers; tells the letters written."""
        if all([is_shut(end) for end in self.layers]):
            raise NotOpen()
        return self.shut_from(0, "closed")

    def tick(self):
        """Ticks all layers; tells the letters written."""
        written = []
        for layer in range(len(self.layers)):
            written.extend(self.at_layer(layer, ticked(self.layers[layer])))
        return written

    def hear(self, letter):
        """Hears a letter of a tower; tells the letters written."""
        layer, inner = letter
        if not self.has_layer(layer) or not self.is_borne(layer):
            return []
        bounds = self.books[layer][1]
        return self.at_layer(layer, heard(self.layers[layer], inner, bounds, tries=self.most_tries))

    def wish(self, layer, wishes):
        """Gives other wishes to a layer; tells the letters written."""
        if not self.has_layer(layer):
            raise NoLayer(layer)
        return self.at_layer(layer, wished(self.layers[layer], wishes, tries=self.most_tries))

    def ends(self):
        """The ends of all layers, beneath first."""
        return self.layers

    def high(self):
        """How many layers stand open."""
        return len([end for end in self.layers if is_open(end)])

    def is_whole(self):
        """Whether all layers stand open."""
        return all([is_open(end) for end in self.layers])

    def name(self):
        """The name of the tower."""
        return self.called

    def has_layer(self, layer):
        """Whether a thing is the number of a layer."""
        return is_from(layer, 0) and layer < len(self.layers)

    def is_borne(self, layer):
        """Whether a layer is the first, or the one beneath stands open."""
        return layer == 0 or is_open(self.layers[layer - 1])

    def at_layer(self, layer, told):
        """Takes up what an event told at a layer, and what follows from it; tells all letters written."""
        was = self.layers[layer]
        written = self.take_up(layer, told)
        now = self.layers[layer]
        if is_open(now) and not is_open(was):
            return written + self.rise_to(layer + 1)
        if is_open(was) and not is_open(now):
            return written + self.shut_from(layer + 1, "beneath")
        return written

    def take_up(self, layer, told):
        """Puts the end that an event told in its layer; tells the letters written there."""
        end, letters = told
        self.layers = (*self.layers[:layer], end, *self.layers[layer + 1:])
        return [(layer, letter) for letter in letters]

    def rise_to(self, layer):
        """Opens a layer, if there is one and it is closed; tells the letters written."""
        if layer == len(self.layers) or not is_shut(self.layers[layer]):
            return []
        return self.take_up(layer, opened(self.layers[layer], tries=self.most_tries))

    def shut_from(self, lowest, why):
        """Closes all layers from the lowest one up that aren't closed, the top one first; tells the letters written."""
        written = []
        for layer in range(len(self.layers) - 1, lowest - 1, -1):
            if not is_shut(self.layers[layer]):
                written.extend(self.take_up(layer, ended(parts_of(self.layers[layer]), why)))
        return written

    def __len__(self):
        return len(self.layers)

    def __eq__(self, other):
        return isinstance(other, Tower) and all_of(self) == all_of(other)

    def __repr__(self):
        return f"Tower({self.called}, {self.high()} of {len(self.layers)})"


def all_of(tower):
    """What makes towers alike."""
    return (tower.name(), tower.books, tower.most_tries, tower.ends())


def is_open(end):
    """Whether an end stands open."""
    return end[2] == "open"


def is_shut(end):
    """Whether an end is closed."""
    return end[2] == "closed"
