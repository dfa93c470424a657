"""A desk: a keeper that is asked in lines of text."""

from lastasked.counting import ever
from lastasked.errors import BadLine
from lastasked.journals import read_journal
from lastasked.lasting import lasting
from lastasked.moments import moments
from lastasked.overs import OVER
from lastasked.rests import rests
from lastasked.steady import steady
from lastasked.texts import move_of_text, text_of_move


class Desk:
    """A keeper, by its journal."""

    def __init__(self, text):
        self.keeper = read_journal(text)

    def say(self, line):
        """The answer to any value that is a line of the table."""
        if not isinstance(line, str):
            raise BadLine(line)
        if line in ANSWERS:
            answer = ANSWERS[line]
            return answer(self.keeper)
        move = move_of_text(line)
        if move is None or move == OVER:
            raise BadLine(line)
        return told_picture(self.keeper.do(move))


def told_picture(picture):
    """What is shown, as it is written."""
    return "-" if picture is None else told_row(picture)


def told_row(parts):
    """These with blanks between."""
    return " ".join([str(part) for part in parts])


def told_list(rows):
    """These, one behind the other."""
    return "; ".join(rows) if len(rows) > 0 else "-"


def say_undo(keeper):
    """Take the last move back."""
    keeper.undo()
    return "ok"


def say_redo(keeper):
    """Do the last one that was taken back again."""
    keeper.redo()
    return "ok"


def say_shown(keeper):
    """What is shown."""
    return told_picture(keeper.shown)


def say_plain(keeper):
    """What the plain meaning shows."""
    return told_picture(keeper.plain_shown)


def say_moves(keeper):
    """The possible moves."""
    return told_list([text_of_move(move) for move in keeper.moves()])


def say_tasks(keeper):
    """The tasks."""
    return told_list([told_row(task[:5]) for task in keeper.stand[3]])


def say_wrongs(keeper):
    """The moments so far that are wrong."""
    return told_list([told_row(row) for row in keeper.wrongs()])


def say_outlook(keeper):
    """What can be shown if hands rest."""
    word, rows = keeper.outlook()
    if word == "sure":
        return "sure " + told_picture(rows[0][1])
    return "open " + told_list([told_picture(picture) for picture, _ in rows])


def say_rests(keeper):
    """Whether rests goes wrong."""
    return told_look(rests(keeper.program, keeper.many))


def say_houses(keeper):
    """Whether rests goes wrong, with houses."""
    return told_look(rests(keeper.program, keeper.many, houses=True))


def say_moments(keeper):
    """Whether moments goes wrong."""
    return told_look(moments(keeper.program, keeper.many))


def told_look(found):
    """Whether a look goes wrong, and with how many moves."""
    return f"wrong {len(found[1])}" if found[0] == "wrong" else "right"


def say_ever(keeper):
    """Whether moments goes wrong with any number of asks."""
    return ever(keeper.program)[0]


def say_steady(keeper):
    """Whether it is settled what will be shown."""
    return steady(keeper.program, keeper.many)[0]


def say_lasting(keeper):
    """How long a wrong picture can stand."""
    return told_lasting(lasting(keeper.program, keeper.many))


def say_lasting_rest(keeper):
    """How long a wrong picture can stand if hands rest."""
    return told_lasting(lasting(keeper.program, keeper.many, hands=False))


def told_lasting(found):
    """How many results can come, if this is told."""
    return str(found[1]) if found[0] == "most" else "endless"


# What is said to each line that is no move.
ANSWERS = {
    "undo": say_undo, "redo": say_redo, "shown": say_shown, "plain": say_plain, "moves": say_moves, "tasks": say_tasks,
    "wrongs": say_wrongs, "outlook": say_outlook, "rests": say_rests, "houses": say_houses, "moments": say_moments,
    "ever": say_ever, "steady": say_steady, "lasting": say_lasting, "lasting rest": say_lasting_rest}
