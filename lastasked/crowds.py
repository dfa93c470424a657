"""Rows: members with any number of tasks, told by a control and by how many of each task there may be.

While it is worked with, a row is (control, bounds), a control being (body, picture, was, since), a body
(house, cells, stores, singles, number of the plain stand); bounds as the document has them: 0 for any number.
"""

from heapq import heappop, heappush

from lastasked.looks import known_behind, moment_word, pictures_of
from lastasked.moves import after_deed, after_task, task_moves
from lastasked.plain import is_plain
from lastasked.stands import is_stand, is_task, is_worths, picture
from lastasked.values import is_ascending, is_integer, is_row

ANY_NUMBER = 0


class Crowd:
    """The rows of a course; bounds above most that come are any number, if most is told."""

    def __init__(self, course, most=None):
        self.course = course
        self.program = course.program
        self.most = most
        self.found_steps = {}
        self.found_effects = {}

    def beginnings(self):
        """The first rows, one for each picture."""
        stand = self.course.stands[self.course.first]
        body = stand[:3] + ((), self.course.first_plain)
        shows = self.course.plain_pictures[self.course.first_plain]
        return [((body, look, look == shows, look == shows), ()) for look in pictures_of(self.program)]

    def nexts(self, row):
        """The rows to which the moves of its members lead."""
        (body, look, was, since), bounds = row
        found = []
        for behind, more, shows, way in self.steps_from(body, bounds):
            known = known_behind(look, was, since, shows, self.course.plain_pictures[behind[4]], way)
            found.append(((behind, look) + known, more))
        return found

    def word_at(self, row):
        """The word of what is wrong, or none."""
        body, look, was, since = row[0]
        return moment_word(look, picture(self.program, body[1]), was, since)

    def told(self, row):
        """The row as it is told."""
        (body, look, was, since), bounds = row
        return body[:4] + (self.course.plains[body[4]], look, was, since), bounds

    def taken(self, value):
        """The row that any value tells; None if it tells none."""
        if not is_row(value, 2) or not is_row(value[0], 8) or not self.are_tasks(value[0], value[1]):
            return None
        plain, look, was, since = value[0][4:]
        if not is_plain(self.program, plain) or not is_worths(look, len(self.program.shows), self.program.worths):
            return None
        if not isinstance(was, bool) or not isinstance(since, bool):
            return None
        body = value[0][:4] + (self.course.plain_number_of(plain),)
        return (body, look, was, since), value[1]

    def are_tasks(self, control, bounds):
        """Whether any values begin with a stand of single tasks, beside bounds of other ones."""
        house, cells, stores, singles = control[:4]
        if not isinstance(singles, tuple) or not are_bounds(bounds):
            return False
        others = tuple([task for task, _ in bounds])
        if not all([is_task(self.program, task) for task in singles + others]):
            return False
        if not is_ascending(singles) or not is_ascending(others):
            return False
        if not all([is_single(self.program, task) for task in singles]):
            return False
        if any([is_single(self.program, task) for task in others]):
            return False
        return is_stand(self.program, (house, cells, stores, tuple(arranged(singles, others))))

    def steps_from(self, body, bounds):
        """(body, bounds, what is shown, way) behind all moves of the members with these, each once."""
        key = (body, bounds)
        if key not in self.found_steps:
            effects = self.found_effects.setdefault(body, {})
            found = []
            for mover in [None] + [task for task, _ in bounds]:
                if mover not in effects:
                    effects[mover] = self.effects_of(body, mover)
                found.extend([self.step_with(bounds, mover, effect) for effect in effects[mover]])
            self.found_steps[key] = list({step: True for step in found})
        return self.found_steps[key]

    def step_with(self, bounds, mover, effect):
        """The step from these bounds with an effect: of a move of one of these tasks, or of another move."""
        body, comes, alike, shows, way = effect
        many = dict(bounds)
        if mover is not None:
            take_one(many, mover)
        if len(alike) > 0:
            many = self.all_behind(many, alike)
        is_sorted = len(alike) == 0 and all([task in many for task in comes])
        for task in comes:
            many[task] = self.together(many.get(task), 1)
        behind = list(many.items())
        return body, tuple(behind if is_sorted else sorted(behind)), shows, way

    def all_behind(self, many, alike):
        """What becomes of so many tasks by what was done to all alike."""
        found = {}
        for task, bound in many.items():
            behind = kind_behind(task, alike)
            if behind is not None:
                found[behind] = self.together(found.get(behind), bound)
        return found

    def together(self, bound, more):
        """So many, None being nothing, and so many more."""
        if bound == ANY_NUMBER or more == ANY_NUMBER:
            return ANY_NUMBER
        total = more if bound is None else bound + more
        return ANY_NUMBER if self.most is not None and total > self.most else total

    def effects_of(self, body, mover):
        """What the moves of a task that is not single do, or if none is told all deeds and the moves of single tasks.

        Each is (body, tasks behind it that are not single, what was done alike, what is shown, way). Other tasks that
        are not single neither hinder a move nor change what it does.
        """
        house, cells, stores, singles, plain = body
        tasks = arranged(singles, [] if mover is None else [mover])
        stand = (house, cells, stores, tuple(tasks))
        found = []
        if mover is None:
            for move in self.course.hands:
                screen = after_deed(self.program, stand, move[1], move[2])
                found.append(self.effect_of(screen, self.course.plain_behind(plain, move)))
        for word, n in task_moves(self.program, tasks):
            if mover is None or tasks[n] == mover:
                found.append(self.effect_of(after_task(self.program, stand, word, n), (plain, ())))
        return found

    def effect_of(self, screen, plain_behind):
        """What a move has done to the screen; plain_behind is the plain stand behind it, and the way."""
        house, cells, stores, tasks = screen.as_stand()
        singles = [task for task in tasks if is_single(self.program, task)]
        comes = [task for task in tasks if not is_single(self.program, task)]
        plain, way = plain_behind
        body = (house, cells, stores, tuple(sorted(singles)), plain)
        return body, comes, list(screen.done_alike), picture(self.program, cells), way


def kind_behind(task, alike):
    """What becomes of a task that is not single by what was done to all alike; None if it is gone.

    To be passed changes none: with take last a live one is single.
    """
    for word, ask in alike:
        if word == "anew":
            task = task[:5] + ((),)
        elif task[0] == ask and task[2] != "out":
            return None
        elif task[0] == ask:
            task = task[:4] + ("off", ())
    return task


class Rows:
    """The rows with bounds up to a number that lie in no other one, as far as they have come.

    found: {control: {bounds of a row: the same as a dict}}; left: a heap of those that are to be followed.
    """

    def __init__(self, most):
        self.most = most
        self.found = {}
        self.left = []
        self.made = 0

    def put_row(self, row):
        """Put a row among them, in the place of those that lie in it."""
        control, bounds = row
        others = self.found.setdefault(control, {})
        if bounds in others or any([lies_in(bounds, other) for other in others.values()]):
            return
        many = dict(bounds)
        beaten = [less for less in others if lies_in(less, many)]
        for less in beaten:
            del others[less]
        others[bounds] = many
        self.made += 1
        heappush(self.left, (-self.size_of(bounds), self.made, row))

    def size_of(self, bounds):
        """How much these bounds let. The greatest rows are followed first: they take the place of most others."""
        return sum([self.most + 1 if bound == ANY_NUMBER else bound for _, bound in bounds])

    def next_left(self):
        """The next row that is to be followed; None if a greater one came since."""
        row = heappop(self.left)[2]
        return row if row[1] in self.found[row[0]] else None


def are_bounds(value):
    """Whether any value is a tuple of things that each have a bound."""
    if not isinstance(value, tuple) or not all([is_row(part, 2) for part in value]):
        return False
    return all([is_integer(bound) and bound >= ANY_NUMBER for _, bound in value])


def is_single(program, task):
    """Whether at most one such task can be there, so that it stands in the control."""
    ask, _, phase, _, mark, _ = task
    if phase == "held" or program.sends[ask] in ("one", "latest") and mark != "off":
        return True
    return program.takes[ask] == "last" and mark == "live"


def arranged(singles, others):
    """These tasks in a sequence in which they can stand: the held ones behind all others."""
    ahead = [task for task in singles if task[2] != "held"]
    return ahead + list(others) + [task for task in singles if task[2] == "held"]


def take_one(many, task):
    """Take one of these tasks out of {task: bound}."""
    if many[task] == 1:
        del many[task]
    elif many[task] != ANY_NUMBER:
        many[task] -= 1


def lies_in(bounds, many):
    """Whether what has these bounds has those, told as {task: bound}."""
    for task, bound in bounds:
        other = many.get(task)
        if other is None or other != ANY_NUMBER and not 1 <= bound <= other:
            return False
    return True
