"""Keepers read back from their journals."""

from lastasked.errors import BadText
from lastasked.keeper import Keeper
from lastasked.lines import DIGITS, Lines
from lastasked.overs import OVER
from lastasked.programs import Program
from lastasked.reading import read_line
from lastasked.texts import move_of_text


def read_journal(text):
    """The keeper of which any value is the journal."""
    if not isinstance(text, str):
        raise BadText(0)
    lines = Lines(text)
    many = read_many(lines)
    lines.need(read_line(lines, 0, ["program"]))
    program = read_program(lines, 1)
    lines.need(read_line(lines, 0, ["story"]))
    steps = read_steps(lines)
    keeper = Keeper(program, many)
    for move, newer in steps:
        if move == OVER:
            keeper.exchange(newer)
        else:
            keeper.do(move)
    return keeper


def read_many(lines):
    """The number of the next line, which need not be one of asks that may be under way."""
    words = lines.words(0)
    lines.need(len(words) == 2 and words[0] == "many" and len(words[1]) == 1 and words[1] in DIGITS)
    lines.step()
    return int(words[1])


def read_program(lines, depth):
    """The program of the lines that stand this deep."""
    lead = "  " * depth
    first = lines.at
    while lines.at < len(lines.rows) and lines.rows[lines.at].startswith(lead):
        lines.step()
    try:
        return Program("\n".join([row[len(lead):] for row in lines.rows[first:lines.at]]))
    except BadText as e:
        raise BadText(first + e.line)


def read_steps(lines):
    """(move, newer program of an exchange, None of others) for all lines that are left."""
    steps = []
    while lines.at < len(lines.rows):
        row = lines.rows[lines.at]
        move = move_of_text(row[2:]) if row.startswith("  ") else None
        lines.need(move is not None)
        lines.step()
        steps.append((move, read_program(lines, 2) if move == OVER else None))
    return steps
