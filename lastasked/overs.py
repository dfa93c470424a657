"""Exchanges: a newer program comes in for the one that is there."""

from lastasked.listing import Listing
from lastasked.plain import PlainScreen, done_plainly
from lastasked.rows import first_cell, worth_of_row
from lastasked.screens import Screen

OVER = ("over",)


def do_suit(elder, newer):
    """Whether these programs can come in for one another."""
    if elder.worths != newer.worths or len(elder.shows) != len(newer.shows):
        return False
    return house_rows(elder) == house_rows(newer)


def house_rows(program):
    """The lines of the house."""
    listing = Listing(program.text)
    return listing.rows[listing.house:listing.screen - 1]


def screen_over(elder, newer, stand):
    """The screen of the newer program behind an exchange at this stand of the elder one."""
    house, cells, stores, tasks = stand
    stores = dict(zip(elder.keeping, stores))
    told = (house, cells_over(elder, newer, cells), tuple([stores.get(ask, ()) for ask in newer.keeping]),
            tuple([task_over(elder, newer, task) for task in tasks]))
    screen = Screen(newer, told)
    drop_elder_held(screen)
    for task in held_tasks(screen, ("many", "one")):
        screen.send_out(task)
    screen.handle(newer.over, 0, 0)
    return screen


def cells_over(elder, newer, cells):
    """What becomes of cells: worths, or rows with the guesses of redone cells that stay so."""
    had = dict(zip(elder.firsts, cells))
    return tuple([cell_over(elder, had[name], back) if name in had else first_cell(first, back)
                  for name, first, back in newer.cells])


def cell_over(elder, cell, back):
    """What becomes of a cell that has this word back then."""
    if back == "redone":
        return (cell, ()) if isinstance(cell, int) else cell
    return cell if isinstance(cell, int) else worth_of_row(cell, elder.worths)


def task_over(elder, newer, task):
    """The task with those guesses that it still has, in the sequence of the newer one's cells."""
    had = dict(task[5])
    guesses = [(name, had[name]) for name, _, back in newer.cells if name in had and back == elder.backs[name]]
    return task[:5] + (tuple(guesses),)


def held_tasks(screen, sends):
    """The held tasks of asks with one of these words."""
    return [task for task in screen.tasks if task.phase == "held" and screen.program.sends[task.ask] in sends]


def drop_elder_held(screen):
    """Of asks that hold one at most all held ones but the last are gone, the last of these first."""
    held = held_tasks(screen, ("latest", "resting"))
    last = {task.ask: task.number for task in held}
    for task in held[::-1]:
        if task.number != last[task.ask]:
            screen.take_back(task)
            screen.drop(task)


def plain_over(elder, newer, plain):
    """(plain stand of the newer program behind an exchange, its way)."""
    house, cells = plain
    had = dict(zip(elder.firsts, cells))
    mapped = tuple([had.get(name, first) for name, first, _ in newer.cells])
    return done_plainly(PlainScreen(newer, (house, mapped)), newer.over, 0)
