"""The plain meaning: each ask is done at once."""

from lastasked.checks import has_deed
from lastasked.errors import NoMove
from lastasked.houses import do_ask
from lastasked.screens import Screen, Task
from lastasked.stands import is_worths, picture
from lastasked.values import is_row


class PlainScreen(Screen):
    """A plain stand while a deed is done to it. All cells are rows; its tasks are the asks that are left."""

    def __init__(self, program, plain):
        house, cells = plain
        super().__init__(program, (house, tuple([(worth, ()) for worth in cells]), (), ()))
        self.row_names = list(program.firsts)

    def picture_now(self):
        """What is shown now."""
        return picture(self.program, list(self.cells.values()))

    def as_plain(self):
        """The plain stand as it is now that no ask is left."""
        return self.house, tuple([self.worth_of(name) for name in list(self.cells)])

    def make_anew(self):
        """All cells become as at first, and no guess is left."""
        self.cells = {name: (first, ()) for name, first, _ in self.program.cells}

    def make_ask(self, ask, worth, guesses, line):
        """Put an ask behind those that are left; send, take and keep count for nothing."""
        task = Task(self.made, ask, worth, "out", line)
        self.made += 1
        self.tasks.append(task)
        for name, word, much in guesses:
            self.guess(name, word, much, task.number)

    def call_off(self, ask):
        """Take the asks of this name out of those that are left."""
        for task in self.tasks:
            if task.ask == ask:
                self.take_back(task)
        self.tasks = [task for task in self.tasks if task.ask != ask]

    def do_first(self):
        """Do the first ask that is left whole."""
        task = self.tasks.pop(0)
        self.house, task.phase, task.answer = do_ask(self.program, self.house, task.ask, task.worth)
        self.settle(task)
        word = "answer" if task.phase == "answered" else "refused"
        self.handle(self.program.handlers.get((word, task.ask), ()), task.answer, task.worth)


def plain_first(program):
    """The plain stand ahead of all deeds."""
    return tuple([worth for _, worth in program.house]), tuple([worth for _, worth, _ in program.cells])


def plain_after(program, plain, name, it):
    """(plain stand behind a deed, its way)."""
    if not has_deed(program, name, it):
        raise NoMove((name, it))
    return done_plainly(PlainScreen(program, plain), program.hands[name][1], it)


def done_plainly(screen, block, it):
    """(plain stand behind a handler and all that it asks for, its way)."""
    screen.handle(block, it, 0)
    way = [screen.picture_now()]
    while len(screen.tasks) > 0:
        screen.do_first()
        way.append(screen.picture_now())
    return screen.as_plain(), tuple(way)


def plain_shown(program, plain):
    """What the plain meaning shows: the worths of the shown cells; None if it is unsure."""
    return picture(program, plain[1])


def is_plain(program, value):
    """Whether any value is a plain stand by its form."""
    if not is_row(value, 2) or not is_worths(value[0], len(program.house), program.worths):
        return False
    return is_worths(value[1], len(program.cells), program.worths)
