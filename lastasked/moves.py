"""Moves: what can happen at a stand, and the stand behind it."""

from lastasked.checks import check_many, is_deed
from lastasked.errors import NoMove
from lastasked.houses import do_ask
from lastasked.screens import Screen, pass_by
from lastasked.values import is_below, is_row, is_word

TASK_WORDS = ("sends", "does", "comes", "gone")


def moves(program, stand, many):
    """All possible moves, ascending."""
    check_many(many)
    return possible_moves(program, stand, many)


def possible_moves(program, stand, many):
    """All possible moves, ascending, for a number of asks that may be under way."""
    found = []
    for name, upto in program.deeds:
        for it in range(upto + 1):
            if len(after_deed(program, stand, name, it).tasks) <= many:
                found.append(("deed", name, it))
    return tuple(sorted(found + task_moves(program, stand[3])))


def task_moves(program, tasks):
    """All possible moves that are no deeds."""
    return [(word, n) for n in range(len(tasks)) for word in TASK_WORDS if can_move(program, tasks, word, n)]


def after(program, stand, move):
    """The stand behind a move."""
    if not is_possible(program, stand, move):
        raise NoMove(move)
    if move[0] == "deed":
        screen = after_deed(program, stand, move[1], move[2])
    else:
        screen = after_task(program, stand, move[0], move[1])
    return screen.as_stand()


def is_possible(program, stand, value):
    """Whether any value is a move that is possible here, with as many tasks as it needs."""
    if is_row(value, 3):
        return is_deed(program, value)
    if is_row(value, 2) and is_word(value[0], TASK_WORDS):
        word, n = value
        return is_below(n, len(stand[3])) and can_move(program, stand[3], word, n)
    return False


def can_move(program, tasks, word, n):
    """Whether this task can do this."""
    phase, mark = tasks[n][2], tasks[n][4]
    if word == "sends":
        return phase == "held" and can_send(program, tasks, n)
    if word == "does":
        return phase == "out" and not (program.in_order and has_phase(tasks[:n], "out"))
    if word == "comes":
        return phase in ("answered", "refused")
    return phase == "out" and mark == "off"


def can_send(program, tasks, n):
    """Whether this held task can go out."""
    ask = tasks[n][0]
    if program.sends[ask] == "resting":
        return True
    alike = [task for task in tasks if task[0] == ask]
    if any([task[2] != "held" and task[4] != "off" for task in alike]):
        return False
    return not has_phase([task for task in tasks[:n] if task[0] == ask], "held")


def has_phase(tasks, phase):
    """Whether one of these tasks has this phase."""
    return any([task[2] == phase for task in tasks])


def after_deed(program, stand, name, it):
    """The screen behind a deed."""
    screen = Screen(program, stand)
    screen.handle(program.hands[name][1], it, 0)
    return screen


def after_task(program, stand, word, n):
    """The screen behind a move of the task at this place."""
    screen = Screen(program, stand)
    task = screen.tasks[n]
    if word == "does":
        does(screen, task)
    elif word == "sends":
        screen.send_out(task)
    else:
        screen.drop(task)
    if word == "comes":
        comes(screen, task, n)
    screen.put_rows_together()
    return screen


def does(screen, task):
    """Let the house do what this task asks."""
    screen.house, task.phase, task.answer = do_ask(screen.program, screen.house, task.ask, task.worth)
    if task.mark == "off":
        screen.drop(task)


def comes(screen, task, n):
    """Let a task that was gone from this place come."""
    screen.settle(task)
    if task.mark != "live":
        return
    word = "refused"
    if task.phase == "answered":
        word = "answer"
        screen.store(task)
        if screen.program.takes[task.ask] == "rising":
            pass_by([other for other in screen.tasks[:n] if other.ask == task.ask and other.mark != "off"])
    screen.handle(screen.program.handlers.get((word, task.ask), ()), task.answer, task.worth)
