"""The parts of a program, read from lines in their sequence."""

from lastasked.lines import read_new_name, read_worth
from lastasked.statements import Scope, read_block

MOST_HOUSE_CELLS = 2
MOST_ASKS = 3
MOST_CELLS = 4
MOST_UNSURE = 2
MOST_DEEDS = 3
MOST_ASKS_OF_DEED = 2
MOST_ASKS_OF_OTHERS = 1
# The lines that choose a word for an ask or a cell, in their sequence: what is there without such a line stands last.
CHOICE_LINES = (
    ("take", ("last", "rising"), "any"), ("send", ("one", "latest", "queued", "resting"), "many"),
    ("keep", ("only", "both"), "none"), ("back", ("redone",), "kept"))


def read_first_line(lines):
    """How many worths there are."""
    words = lines.words(0)
    lines.need(len(words) == 2 and words[0] == "worths" and words[1] in ("2", "3", "4"))
    lines.step()
    return int(words[1])


def read_line(lines, depth, words):
    """Whether the next line has these words; then it is passed."""
    holds = lines.words(depth) == words
    if holds:
        lines.step()
    return holds


def read_cells(lines, worths, most):
    """Cells with their first worths, as {cell: worth}."""
    cells = {}
    while len(cells) < most and lines.begins(1, "cell"):
        words = lines.words(1)
        lines.need(len(words) == 3)
        name = read_new_name(lines, words[1], cells)
        cells[name] = read_worth(lines, words[2], worths)
        lines.step()
    return cells


def read_house_asks(lines, worths, cells):
    """What the house does for each ask, as {ask: statements}."""
    scope = Scope(worths, cells, ("it",), (), in_house=True)
    asks = {}
    while len(asks) < MOST_ASKS and lines.begins(1, "ask"):
        words = lines.words(1)
        lines.need(len(words) == 2)
        name = read_new_name(lines, words[1], asks)
        lines.step()
        asks[name] = read_block(lines, scope, 2)[0] if len(lines.words(2)) > 0 else ()
    lines.need(len(asks) > 0)
    return asks


def read_shows(lines, cells):
    """The cells that are shown."""
    words = lines.words(1)
    lines.need(len(words) in (2, 3) and words[0] == "show")
    shows = words[1:]
    lines.need(all([name in cells for name in shows]))
    lines.need(len(shows) == 1 or shows[0] != shows[1])
    lines.step()
    return tuple(shows)


def read_unsure(lines, worths, cells):
    """The unsure lines, each as (cell, worth)."""
    unsure = []
    while len(unsure) < MOST_UNSURE and lines.begins(1, "unsure"):
        words = lines.words(1)
        lines.need(len(words) == 4 and words[1] in cells and words[2] == "=")
        unsure.append((words[1], read_worth(lines, words[3], worths)))
        lines.step()
    return tuple(unsure)


def read_choices(lines, asks, cells):
    """The take, send, keep and back lines, as {word: {name: choice}}."""
    found = {}
    for word, choices, plain in CHOICE_LINES:
        found[word] = read_choices_of(lines, word, cells if word == "back" else asks, choices, plain)
    return found


def read_choices_of(lines, word, names, choices, plain):
    """The lines that begin with this word, as {name: choice}: plain for each name without a line."""
    found = {name: plain for name in names}
    left = list(names)
    while lines.begins(1, word):
        words = lines.words(1)
        lines.need(len(words) == 3 and words[1] in left and words[2] in choices)
        found[words[1]] = words[2]
        left = left[left.index(words[1]) + 1:]
        lines.step()
    return found


def read_deeds(lines, scope):
    """The deeds, as {deed: (upto, statements)}."""
    deeds = {}
    while len(deeds) < MOST_DEEDS and lines.begins(1, "deed"):
        words = lines.words(1)
        lines.need(len(words) == 2 or len(words) == 4 and words[2] == "upto")
        name = read_new_name(lines, words[1], deeds)
        upto = 0
        if len(words) == 4:
            upto = read_worth(lines, words[3], scope.worths)
            lines.need(upto > 0)
        lines.step()
        deeds[name] = (upto, read_block(lines, scope, 2)[0])
    lines.need(len(deeds) > 0)
    return deeds


def read_handlers(lines, worths, cells, asks):
    """The handlers of answers and of refused ones, as {(word, ask): statements}."""
    names = list(asks)
    found = {}
    for at in range(len(names)):
        scope = Scope(worths, cells, ("it", "asked"), asks, lets=names[at + 1:], most=MOST_ASKS_OF_OTHERS)
        for word in ("answer", "refused"):
            if read_line(lines, 1, [word, names[at]]):
                found[(word, names[at])] = read_block(lines, scope, 2)[0]
    return found


def read_screen_handlers(lines, worths, cells, asks):
    """The deeds, the handlers of answers and of refused ones, and what is done below over."""
    scope = Scope(worths, cells, ("it",), asks, lets=asks, most=MOST_ASKS_OF_DEED)
    deeds = read_deeds(lines, scope)
    handlers = read_handlers(lines, worths, cells, asks)
    over = ()
    if read_line(lines, 1, ["over"]):
        scope = Scope(worths, cells, (), asks, lets=asks, most=MOST_ASKS_OF_OTHERS)
        over = read_block(lines, scope, 2)[0]
    return deeds, handlers, over
