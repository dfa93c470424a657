"""Programs: a house, and a screen that asks it, read from a text."""

from lastasked.errors import BadText
from lastasked.lines import Lines
from lastasked.reading import (
    MOST_CELLS, MOST_HOUSE_CELLS, read_cells, read_choices, read_first_line, read_house_asks, read_line,
    read_screen_handlers, read_shows, read_unsure)


class Program:
    """What the text of a program tells. Beside the properties of the document it has:

    works: {ask: statements of the house}; takes, sends, keeps: {ask: word}; firsts: {cell: first worth};
    backs: {cell: word}; choices: {"take": takes, "send": sends, "keep": keeps, "back": backs};
    unsure: a tuple of (cell, worth); hands: {deed: (upto, statements)};
    handlers: {("answer" or "refused", ask): statements}; over: statements;
    keeping: the asks that keep answers; redone: the cells that are rows.
    """

    def __init__(self, text):
        if not isinstance(text, str):
            raise BadText(0)
        self.text = text
        lines = Lines(text)
        self.worths = read_first_line(lines)
        self._read_house(lines)
        self._read_screen(lines)
        lines.need(lines.at == len(lines.rows))
        names = list(self.works)
        self.asks = tuple([(name, self.takes[name], self.sends[name], self.keeps[name]) for name in names])
        self.cells = tuple([(name, self.firsts[name], self.backs[name]) for name in list(self.firsts)])
        self.deeds = tuple([(name, self.hands[name][0]) for name in list(self.hands)])
        self.keeping = [name for name in names if self.keeps[name] != "none"]
        self.redone = [name for name in list(self.backs) if self.backs[name] == "redone"]

    def _read_house(self, lines):
        lines.need(read_line(lines, 0, ["house"]))
        self.in_order = read_line(lines, 1, ["in", "order"])
        cells = read_cells(lines, self.worths, MOST_HOUSE_CELLS)
        self.house = tuple(cells.items())
        self.works = read_house_asks(lines, self.worths, cells)

    def _read_screen(self, lines):
        lines.need(read_line(lines, 0, ["screen"]))
        asks = list(self.works)
        self.firsts = read_cells(lines, self.worths, MOST_CELLS)
        cells = list(self.firsts)
        self.shows = read_shows(lines, cells)
        self.unsure = read_unsure(lines, self.worths, cells)
        self.choices = read_choices(lines, asks, cells)
        self.takes, self.sends, self.keeps, self.backs = list(self.choices.values())
        self.hands, self.handlers, self.over = read_screen_handlers(lines, self.worths, cells, asks)

    def __eq__(self, other):
        return isinstance(other, Program) and self.text == other.text
