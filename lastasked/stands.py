"""Stands: what the house and the screen are like between two moves."""

from lastasked.rows import SURE, first_cell, worth_of_row
from lastasked.values import is_below, is_integer, is_row, is_word

PHASES = ("held", "out", "answered", "refused")
MARKS = ("live", "passed", "off")


def first_stand(program):
    """The stand ahead of all moves."""
    house = tuple([worth for _, worth in program.house])
    cells = tuple([first_cell(first, back) for _, first, back in program.cells])
    return house, cells, tuple([() for _ in program.keeping]), ()


def shown(program, stand):
    """The worths of the shown cells; None if the screen is unsure."""
    return picture(program, stand[1])


def picture(program, cells):
    """What is shown with these cells, in their sequence: worths or rows."""
    worths = {}
    for row, cell in zip(program.cells, cells):
        worths[row[0]] = cell if isinstance(cell, int) else worth_of_row(cell, program.worths)
    for name, worth in program.unsure:
        if worths[name] == worth:
            return None
    return tuple([worths[name] for name in program.shows])


def is_stand(program, value):
    """Whether any value is a stand of this program by its form."""
    if not is_row(value, 4):
        return False
    house, cells, stores, tasks = value
    if not is_worths(house, len(program.house), program.worths):
        return False
    return is_tasks(program, tasks) and is_cells(program, cells, tasks) and is_stores(program, stores)


def is_worths(value, length, worths):
    """Whether this is a tuple of so many worths."""
    return is_row(value, length) and all([is_below(worth, worths) for worth in value])


def is_stores(program, stores):
    """Whether this is a store for each ask that keeps answers."""
    if not is_row(stores, len(program.keeping)):
        return False
    return all([is_store(store, program.worths) for store in stores])


def is_store(store, worths):
    """Whether this is an ascending tuple of (worth, answer), each worth once."""
    if not isinstance(store, tuple) or not all([is_worths(pair, 2, worths) for pair in store]):
        return False
    return all([store[n - 1][0] < store[n][0] for n in range(1, len(store))])


def is_tasks(program, tasks):
    """Whether this is a tuple of tasks, the held ones behind all others."""
    if not isinstance(tasks, tuple) or not all([is_task(program, task) for task in tasks]):
        return False
    held = [task[0] for task in tasks if task[2] == "held"]
    if any([task[2] == "held" for task in tasks[:len(tasks) - len(held)]]):
        return False
    for ask in list(program.sends):
        send = program.sends[ask]
        most = 0 if send in ("many", "one") else 1
        if send != "queued" and held.count(ask) > most:
            return False
    return True


def is_task(program, task):
    """Whether this is a task, right by itself."""
    if not is_row(task, 6):
        return False
    ask, worth, phase, answer, mark, guesses = task
    if not is_word(ask, program.works) or not is_word(phase, PHASES) or not is_word(mark, MARKS):
        return False
    if not is_below(worth, program.worths) or not is_below(answer, program.worths):
        return False
    if phase != "answered" and answer > 0:
        return False
    if mark == "off" and (phase != "out" or guesses != ()):
        return False
    return is_guesses(program, guesses)


def is_guesses(program, guesses):
    """Whether these are guesses of kept cells, in the sequence of the cells."""
    if not isinstance(guesses, tuple):
        return False
    left = [cell for cell in list(program.backs) if program.backs[cell] == "kept"]
    for guess in guesses:
        if not is_row(guess, 2) or not is_word(guess[0], left) or not is_below(guess[1], program.worths):
            return False
        left = left[left.index(guess[0]) + 1:]
    return True


def is_cells(program, cells, tasks):
    """Whether this is a worth or a row for each cell, beside these tasks."""
    if not is_row(cells, len(program.cells)):
        return False
    for cell, row in zip(cells, program.cells):
        if row[2] == "redone":
            holds = is_cell_row(program, cell, tasks)
        else:
            holds = is_below(cell, program.worths)
        if not holds:
            return False
    return True


def is_cell_row(program, row, tasks):
    """Whether this is a row that is put together."""
    if not is_row(row, 2) or not is_below(row[0], program.worths) or not isinstance(row[1], tuple):
        return False
    if not all([is_entry(program, entry, tasks) for entry in row[1]]):
        return False
    places = [entry[2] for entry in row[1]]
    if any([places[n] == SURE and (n == 0 or places[n - 1] == SURE) for n in range(len(places))]):
        return False
    guesses = [place for place in places if place != SURE]
    return len(guesses) == len(set(guesses))


def is_entry(program, entry, tasks):
    """Whether this is an entry of a task that is not off, or a sure one that does something."""
    if not is_row(entry, 3):
        return False
    word, worth, n = entry
    if not is_word(word, ("set", "add")) or not is_below(worth, program.worths):
        return False
    if is_below(n, len(tasks)):
        return tasks[n][4] != "off"
    return is_integer(n) and n == SURE and (word == "set" or worth > 0)
