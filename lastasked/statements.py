"""Statements as they are read from lines.

A statement is a tuple that begins with its word; E is a worth, or the word that tells where the
worth is found (a cell, it, asked: no cell can be called so):
("set", cell, E), ("add", cell, E), ("if", E, E, statements, statements of else),
of the house ("answer", E), ("refuse",),
of the screen ("ask", ask, E, guesses, line), ("off", ask), ("forget", ask), ("anew",),
guesses a tuple of (cell, "set" or "add", E), line where the statement stands, from 1.
"""

from lastasked.lines import read_worth

MOST_STATEMENTS = 8
MOST_IFS = 2
GUESS_WORDS = {"=": "set", "+": "add"}


class Scope:
    """What the statements below one line may name, and how many asks a way through them may make."""

    def __init__(self, worths, cells, known, asks, *, in_house=False, lets=(), most=0):
        self.worths = worths
        self.cells = cells
        self.known = known
        self.asks = asks
        self.in_house = in_house
        self.lets = lets
        self.most = most


def read_block(lines, scope, depth, ifs=0, made=0):
    """The statements that stand this deep, and how many asks a way that leads behind them makes at most.

    made tells this number for the ways that lead to them.
    """
    block = []
    while len(block) < MOST_STATEMENTS and len(lines.words(depth)) > 0:
        statement, made = read_statement(lines, scope, depth, ifs, made)
        block.append(statement)
    lines.need(len(block) > 0)
    return tuple(block), made


def read_statement(lines, scope, depth, ifs, made):
    """The next statement, with the same number as read_block."""
    words = lines.words(depth)
    if words[0] == "if":
        return read_if(lines, scope, depth, ifs, made)
    if words[0] in ("set", "add"):
        statement = read_write(lines, scope, words)
    elif scope.in_house:
        statement = read_ending(lines, scope, words)
    elif words[0] == "ask":
        lines.need(made < scope.most)
        made += 1
        statement = read_ask(lines, scope, words)
    else:
        statement = read_short(lines, scope, words)
    lines.step()
    return statement, made


def read_if(lines, scope, depth, ifs, made):
    """An if with its else; of its two ways the one with more asks counts."""
    words = lines.words(depth)
    lines.need(ifs < MOST_IFS and len(words) == 4 and words[2] == "=")
    left = read_value(lines, scope, words[1])
    right = read_value(lines, scope, words[3])
    lines.step()
    block, most = read_block(lines, scope, depth + 1, ifs + 1, made)
    other, other_most = (), made
    if lines.words(depth) == ["else"]:
        lines.step()
        other, other_most = read_block(lines, scope, depth + 1, ifs + 1, made)
    return ("if", left, right, block, other), max(most, other_most)


def read_write(lines, scope, words):
    """A set or an add."""
    lines.need(len(words) == 3 and words[1] in scope.cells)
    return words[0], words[1], read_value(lines, scope, words[2])


def read_ending(lines, scope, words):
    """How the house ends an ask."""
    if words == ["refuse"]:
        return ("refuse",)
    lines.need(words[0] == "answer" and len(words) == 2)
    return "answer", read_value(lines, scope, words[1])


def read_ask(lines, scope, words):
    """An ask with its guesses."""
    lines.need(len(words) in (3, 7, 11) and words[1] in scope.lets)
    worth = read_value(lines, scope, words[2])
    guesses = [read_guess(lines, scope, words[at:at + 4]) for at in range(3, len(words), 4)]
    lines.need(len(guesses) < 2 or guesses[0][0] != guesses[1][0])
    return "ask", words[1], worth, tuple(guesses), lines.at + 1


def read_guess(lines, scope, words):
    """A guess of one cell."""
    lines.need(words[0] == "guess" and words[1] in scope.cells and words[2] in GUESS_WORDS)
    return words[1], GUESS_WORDS[words[2]], read_value(lines, scope, words[3])


def read_short(lines, scope, words):
    """An off, a forget or an anew."""
    if words == ["anew"]:
        return ("anew",)
    lines.need(words[0] in ("off", "forget") and len(words) == 2 and words[1] in scope.asks)
    return words[0], words[1]


def read_value(lines, scope, word):
    """An E."""
    if word in scope.known or word in scope.cells:
        return word
    return read_worth(lines, word, scope.worths)
