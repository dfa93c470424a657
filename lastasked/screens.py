"""A stand while a move is done to it."""

from lastasked.handlers import do_handler
from lastasked.rows import (
    SURE, first_cell, put_together, with_last, with_settled, with_write, without_task, worth_behind, worth_of_row)


class Task:
    """An ask that is under way. Its number stays while its place changes.

    line: where the statement stands that made it, 0 if it was there ahead of the move.
    """

    def __init__(self, number, ask, worth, phase, line=0):
        self.number = number
        self.line = line
        self.ask = ask
        self.worth = worth
        self.phase = phase
        self.answer = 0
        self.mark = "live"
        self.guesses = {}


class Screen:
    """A stand that changes. In its rows n is the number of a task. row_names: the cells that are rows.

    done_alike tells what was done to all tasks that were there then: ("off", ask) or ("anew", "").
    """

    def __init__(self, program, stand):
        self.program = program
        self.house, cells, stores, tasks = stand
        # Numbers begin with the places, so the rows can be taken as they are.
        self.tasks = [task_at(n, tasks[n]) for n in range(len(tasks))]
        self.made = len(tasks)
        self.cells = dict(zip(program.firsts, cells))
        self.stores = {ask: dict(store) for ask, store in zip(program.keeping, stores)}
        self.row_names = program.redone
        self.waiting = []
        self.done_alike = []

    def as_stand(self):
        """The stand as it is now."""
        stores = [tuple(sorted(list(store.items()))) for store in list(self.stores.values())]
        tasks = [self._told(task) for task in self.tasks]
        return self.house, self._told_cells(), tuple(stores), tuple(tasks)

    def _told_cells(self):
        """The cells with the places of tasks, in the place of their numbers."""
        if len(self.program.redone) == 0:
            return tuple(self.cells.values())
        places = {self.tasks[n].number: n for n in range(len(self.tasks))}
        places[SURE] = SURE
        cells = []
        for cell in list(self.cells.values()):
            if not isinstance(cell, int):
                cell = (cell[0], tuple([(word, worth, places[n]) for word, worth, n in cell[1]]))
            cells.append(cell)
        return tuple(cells)

    def _told(self, task):
        guesses = ()
        if len(task.guesses) > 0:
            guesses = tuple([(cell, task.guesses[cell]) for cell in list(self.cells) if cell in task.guesses])
        return task.ask, task.worth, task.phase, task.answer, task.mark, guesses

    def handle(self, block, it, asked):
        """Do a handler, then those of the stored answers that were asked for by the way."""
        do_handler(self, block, it, asked)
        self.put_rows_together()
        while len(self.waiting) > 0:
            ask, worth, answer = self.waiting.pop(0)
            do_handler(self, self.program.handlers.get(("answer", ask), ()), answer, worth)
            self.put_rows_together()

    def put_rows_together(self):
        """Put all rows together, so that no mark of a handler is left either."""
        for name in self.row_names:
            self.cells[name] = put_together(self.cells[name], self.program.worths)

    def worth_of(self, name):
        """What a handler reads in a cell."""
        cell = self.cells[name]
        return cell if isinstance(cell, int) else worth_of_row(cell, self.program.worths)

    def write(self, name, word, worth):
        """Write to a cell as a handler does."""
        cell = self.cells[name]
        if isinstance(cell, int):
            self.cells[name] = worth_behind(cell, word, worth, self.program.worths)
        else:
            self.cells[name] = with_write(cell, word, worth)

    def make_anew(self):
        """All cells become as at first, and no guess is left."""
        self.cells = {name: first_cell(first, back) for name, first, back in self.program.cells}
        for task in self.tasks:
            task.guesses = {}
        self.done_alike.append(("anew", ""))

    def forget(self, ask):
        """Empty what is stored of an ask."""
        if ask in self.stores:
            self.stores[ask] = {}

    def store(self, task):
        """Store the answer of a task if its ask keeps answers."""
        if task.ask in self.stores:
            self.stores[task.ask][task.worth] = task.answer

    def tasks_there(self, ask):
        """The tasks of an ask that are not off."""
        return [task for task in self.tasks if task.ask == ask and task.mark != "off"]

    def make_ask(self, ask, worth, guesses, line):
        """Ask as keep and send of this ask tell."""
        if worth in self.stores.get(ask, {}):
            self.waiting.append((ask, worth, self.stores[ask][worth]))
            if self.program.takes[ask] != "any":
                pass_by(self.tasks_there(ask))
            if self.program.keeps[ask] == "only":
                for name, word, much in guesses:
                    self.guess(name, word, much, SURE)
                return
        there = self.tasks_there(ask)
        send = self.program.sends[ask]
        if send == "one" and len(there) > 0:
            return
        waits = send == "resting" or send in ("latest", "queued") and len(there) > 0
        if send in ("latest", "resting"):
            for task in [task for task in there if task.phase == "held"]:
                self.take_back(task)
                self.drop(task)
        self.make_task(Task(self.made, ask, worth, "held" if waits else "out", line), guesses)

    def make_task(self, task, guesses):
        """Make a task with its guesses."""
        self.made += 1
        if self.program.takes[task.ask] == "last":
            pass_by(self.tasks_there(task.ask))
        self.put(task)
        for name, word, much in guesses:
            if isinstance(self.cells[name], int):
                task.guesses[name] = self.cells[name]
            self.guess(name, word, much, task.number)

    def guess(self, name, word, worth, number):
        """Write a guess of this task to a cell, SURE if it is of none."""
        if isinstance(self.cells[name], int):
            self.write(name, word, worth)
        else:
            self.cells[name] = with_last(self.cells[name], (word, worth, number))

    def put(self, task):
        """Put a task at the end of the held ones if it is held, otherwise ahead of them."""
        ahead = [other for other in self.tasks if task.phase == "held" or other.phase != "held"]
        self.tasks = ahead + [task] + self.tasks[len(ahead):]

    def drop(self, task):
        """Let a task be gone."""
        self.tasks = [other for other in self.tasks if other.number != task.number]

    def send_out(self, task):
        """Let a held task go out."""
        self.drop(task)
        task.phase = "out"
        self.put(task)

    def take_back(self, task):
        """Take the guesses of a task back."""
        for name, had in task.guesses.items():
            self.cells[name] = had
        for name in self.row_names:
            self.cells[name] = without_task(self.cells[name], task.number)
        task.guesses = {}

    def settle(self, task):
        """Settle the guesses of a task that comes, and mark where its handler writes."""
        is_sure = task.phase == "answered"
        for name in self.row_names:
            self.cells[name] = with_settled(self.cells[name], task.number, is_sure)
        if not is_sure:
            for name, had in task.guesses.items():
                self.cells[name] = had

    def call_off(self, ask):
        """Call all tasks of an ask off, the last one first."""
        for task in self.tasks[::-1]:
            if task.ask == ask:
                self.take_back(task)
                task.mark = "off"
        self.tasks = [task for task in self.tasks if task.ask != ask or task.phase == "out"]
        self.done_alike.append(("off", ask))


def task_at(place, value):
    """A task of a stand, its number being its place there."""
    task = Task(place, value[0], value[1], value[2])
    task.answer = value[3]
    task.mark = value[4]
    task.guesses = dict(value[5])
    return task


def pass_by(tasks):
    """Let these tasks be passed; none of them is off."""
    for task in tasks:
        task.mark = "passed"
