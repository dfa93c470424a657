"""Stands with marks: which ask statement made each task, in which sequence, and what it still guesses.

While it is worked with, a member is (stand, marks), the stand by its number, marks telling (line, how many of the tasks
were made ahead of it) of each task; has, the cells of which it still has guesses, hangs on the stand alone.
"""

from lastasked.courses import Course
from lastasked.listing import Listing
from lastasked.moves import after_deed, after_task, task_moves
from lastasked.stands import is_stand
from lastasked.values import is_below, is_integer, is_row, is_same


class MarksLook:
    """All stands with marks to which stories lead.

    asks: {line of an ask statement: its ask}; guessed: {line: the cells that it guesses}.
    """

    def __init__(self, program, many):
        self.program = program
        self.course = Course(program)
        self.many = many
        self.found_steps = {}
        self.found_has = {}
        listing = Listing(program.text)
        rows = {line: listing.words_at(line) for line in listing.numbers() if listing.is_statement(line, "ask")}
        self.asks = {line: words[1] for line, words in rows.items()}
        self.guessed = {line: words[4::4] for line, words in rows.items()}

    def beginnings(self):
        """The member ahead of all moves."""
        return [(self.course.first, ())]

    def nexts(self, member):
        """(move, member) for each possible move."""
        stand, marks = member
        return [(move, (behind, marks_behind(marks, makers))) for move, behind, makers in self.steps_from(stand)]

    def steps_from(self, stand):
        """(move, stand behind it, makers) for each possible move, makers telling (number, line) of each task there."""
        if stand not in self.found_steps:
            value = self.course.stands[stand]
            steps = [self.step_to(move, after_task(self.program, value, move[0], move[1]))
                     for move in task_moves(self.program, value[3])]
            for move in self.course.hands:
                screen = after_deed(self.program, value, move[1], move[2])
                if len(screen.tasks) <= self.many:
                    steps.append(self.step_to(move, screen))
            self.found_steps[stand] = steps
        return self.found_steps[stand]

    def step_to(self, move, screen):
        """The step of a move that has led to this screen."""
        return move, self.course.number_of(screen.as_stand()), [(task.number, task.line) for task in screen.tasks]

    def has_at(self, stand):
        """For each task of a stand the ascending tuple of the cells of which it still has guesses."""
        if stand not in self.found_has:
            _, cells, _, tasks = self.course.stands[stand]
            had = [[name for name, _ in task[5]] for task in tasks]
            for name, cell in zip(self.program.firsts, cells):
                if not isinstance(cell, int):
                    for _, _, n in cell[1]:
                        if n >= 0:
                            had[n].append(name)
            self.found_has[stand] = [tuple(sorted(names)) for names in had]
        return self.found_has[stand]

    def lies_at(self, member):
        """All (lower, upper, cell) of two tasks at this member, of which the lower one was made ahead."""
        stand, marks = member
        rows = list(zip(marks, self.has_at(stand)))
        return [(lower[0], upper[0], cell) for lower, below in rows for upper, above in rows
                if lower[1] < upper[1] for cell in below if cell in above]

    def wanted(self):
        """All (lower, upper, cell) of two ask statements that guess the cell, ascending."""
        return sorted([(lower, upper, cell) for lower in self.guessed for upper in self.guessed
                       for cell in self.guessed[lower] if cell in self.guessed[upper]])

    def told(self, member):
        """The member as it is told."""
        stand, marks = member
        return self.course.stands[stand], tuple([mark + (has,) for mark, has in zip(marks, self.has_at(stand))])

    def taken(self, value):
        """The member that any value tells; None if it tells none."""
        if not is_row(value, 2) or not is_stand(self.program, value[0]):
            return None
        stand = self.course.number_of(value[0])
        has = self.has_at(stand)
        if not is_row(value[1], len(has)) or not all([is_row(mark, 3) for mark in value[1]]):
            return None
        if not all([self.is_mark(mark, part, task[0]) for mark, part, task in zip(value[1], has, value[0][3])]):
            return None
        if sorted([mark[1] for mark in value[1]]) != list(range(len(has))):
            return None
        return stand, tuple([mark[:2] for mark in value[1]])

    def is_mark(self, mark, has, ask):
        """Whether any values are a mark of a task of this ask that still has these guesses."""
        line, ahead, names = mark
        return is_integer(line) and self.asks.get(line) == ask and is_integer(ahead) and is_same(names, has)

    def word_at(self, member):
        """None is wrong."""
        return ""

    def member_behind(self, story):
        """The member behind any value that is a story; None if it is none."""
        if not isinstance(story, tuple):
            return None
        member = self.beginnings()[0]
        for move in story:
            found = [behind for other, behind in self.nexts(member) if is_same(move, other)]
            if len(found) == 0:
                return None
            member = found[0]
        return member


def marks_behind(marks, makers):
    """The marks of tasks, told by (number, line): those that were there have their places as numbers."""
    found = [(marks[number][0], marks[number][1]) if number < len(marks) else (line, number) for number, line in makers]
    ahead = sorted([made for _, made in found])
    return tuple([(line, ahead.index(made)) for line, made in found])
