"""Programs: a house, and a screen that asks it, read from a text."""

from lastasked.errors import BadText
from lastasked.lines import Lines
from lastasked.reading import (
    MOST_CELLS, MOST_HOUSE_CELLS, read_cells, read_choices, read_first_line, read_house_asks, read_line,
    read_screen_handlers, read_shows, read_unsure)


class Program:
    """What the text of a program tells. Beside the properties of the document it has:

    works: {ask: statements of the house}; takes, sends, keeps: {ask: word}; firsts: {cell: first worth};
    backs: {cell: word}; unsure: a tuple of (cell, worth); hands: {deed: (upto, statements)};
    handlers: {("answer" or "refused", ask): statements}; over: statements.
    """

    def __init__(self, text):
        if not isinstance(text, str):
            raise BadText(0)
        self.text = text
        lines = Lines(text)
        self.worths = read_first_line(lines)
        self._read_house(lines)
        self._read_screen(lines)
        lines.need(lines.at == len(lines.rows))
        names = list(self.works)
        self.asks = tuple([(name, self.takes[name], self.sends[name], self.keeps[name]) for name in names])
        self.cells = tuple([(name, self.firsts[name], self.backs[name]) for name in list(self.firsts)])
        self.deeds = tuple([(name, self.hands[name][0]) for name in list(self.hands)])

    def _read_house(self, lines):
        lines.need(read_line(lines, 0, ["house"]))
        self.in_order = read_line(lines, 1, ["in", "order"])
        cells = read_cells(lines, self.worths, MOST_HOUSE_CELLS)
        self.house = tuple(cells.items())
        self.works = read_house_asks(lines, self.worths, cells)

    def _read_screen(self, lines):
        lines.need(read_line(lines, 0, ["screen"]))
        asks = list(self.works)
        self.firsts = read_cells(lines, self.worths, MOST_CELLS)
        cells = list(self.firsts)
        self.shows = read_shows(lines, cells)
        self.unsure = read_unsure(lines, self.worths, cells)
        self.takes = read_choices(lines, "take", asks, ("last", "rising"), "any")
        self.sends = read_choices(lines, "send", asks, ("one", "latest", "queued", "resting"), "many")
        self.keeps = read_choices(lines, "keep", asks, ("only", "both"), "none")
        self.backs = read_choices(lines, "back", cells, ("redone",), "kept")
        self.hands, self.handlers, self.over = read_screen_handlers(lines, self.worths, cells, asks)

    def __eq__(self, other):
        return isinstance(other, Program) and self.text == other.text
