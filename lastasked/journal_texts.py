"""The rows of a journal."""

from lastasked.overs import OVER
from lastasked.texts import text_of_move


def rows_ahead(program, many):
    """What stands ahead of all moves."""
    return "\n".join([f"many {many}", "program"] + deeper(program.text, 1) + ["story"])


def rows_of_move(move, program):
    """What stands for a move; program is the one behind it."""
    rows = ["  " + text_of_move(move)]
    return "\n".join(rows + deeper(program.text, 2) if move == OVER else rows)


def deeper(text, depth):
    """The lines of a text, so much deeper."""
    return ["  " * depth + row for row in text.split("\n")]
