"""Looks at stories in which programs come in for one another.

A step there is (number of the program behind it, step of a course), a member (number of the program, member of a look).
"""

from lastasked.courses import Course
from lastasked.looks import look_called
from lastasked.overs import OVER, plain_over, screen_over
from lastasked.values import is_below, is_same


class Passage:
    """Programs in the sequence in which they come in. courses: one for each of them."""

    def __init__(self, programs):
        self.courses = [Course(program) for program in programs]
        self.stands_over = {}
        self.plains_over = {}

    def looks_called(self, names, many, bars):
        """The looks of these names, each as (name, look)."""
        return [(name, PassageLook(self, name, many, bars)) for name in names]

    def stand_behind(self, number, stand):
        """The stand behind an exchange of the program of this number, however many tasks are there then."""
        key = (number, stand)
        if key not in self.stands_over:
            elder, newer = self.courses[number], self.courses[number + 1]
            screen = screen_over(elder.program, newer.program, elder.stands[stand])
            self.stands_over[key] = newer.number_of(screen.as_stand())
        return self.stands_over[key]

    def plain_behind(self, number, plain):
        """(the plain stand behind an exchange of the program of this number, its way)."""
        key = (number, plain)
        if key not in self.plains_over:
            elder, newer = self.courses[number], self.courses[number + 1]
            behind, way = plain_over(elder.program, newer.program, elder.plains[plain])
            self.plains_over[key] = (newer.plain_number_of(behind), way)
        return self.plains_over[key]

    def step_over(self, number, stand, plain, many, bars):
        """The step of an exchange; None if it is not possible."""
        if number + 1 == len(self.courses):
            return None
        if any([task[0] in bars for task in self.courses[number].stands[stand][3]]):
            return None
        behind = self.stand_behind(number, stand)
        if not self.courses[number + 1].is_let(behind, many):
            return None
        return number + 1, (OVER, behind) + self.plain_behind(number, plain)

    def step_by(self, number, stand, plain, move, many, bars):
        """The step behind any value; None if it is no move that is possible."""
        if is_same(move, OVER):
            return self.step_over(number, stand, plain, many, bars)
        step = self.courses[number].step_by(stand, plain, move, many)
        return None if step is None else (number, step)

    def follow(self, story, many, bars):
        """The steps of any value that is a story; None if it is none."""
        if not isinstance(story, tuple):
            return None
        number, stand, plain = 0, self.courses[0].first, self.courses[0].first_plain
        steps = []
        for move in story:
            step = self.step_by(number, stand, plain, move, many, bars)
            if step is None:
                return None
            number, (_, stand, plain, _) = step
            steps.append(step)
        return steps


class PassageLook:
    """A look at such stories, with as many looks as there are programs beneath it."""

    def __init__(self, passage, name, many, bars):
        self.passage = passage
        self.many = many
        self.bars = bars
        self.looks = [look_called(course, name, many) for course in passage.courses]

    def beginnings(self):
        """The members ahead of all moves."""
        return [(0, member) for member in self.looks[0].beginnings()]

    def nexts(self, member):
        """(move, member) for each possible move."""
        number, inner = member
        found = [(move, (number, behind)) for move, behind in self.looks[number].nexts(inner)]
        step = self.passage.step_over(number, inner[0], inner[1], self.many, self.bars)
        if step is not None:
            found.append((OVER, self.behind(member, step)))
        return found

    def behind(self, member, step):
        """The member behind a step."""
        number, inner = step
        return number, self.looks[number].behind(member[1], inner)

    def word_at(self, member):
        """The word of what is wrong, or none."""
        return self.looks[member[0]].word_at(member[1])

    def told(self, member):
        """The member as it is told."""
        return (member[0],) + self.looks[member[0]].told(member[1])

    def taken(self, value):
        """The member that any value tells; None if it tells none."""
        if not isinstance(value, tuple) or len(value) == 0 or not is_below(value[0], len(self.looks)):
            return None
        inner = self.looks[value[0]].taken(value[1:])
        return None if inner is None else (value[0], inner)

    def word_of(self, story):
        """The word of what is wrong at the end of any value that is a story, or none."""
        steps = self.passage.follow(story, self.many, self.bars)
        if steps is None or len(steps) == 0:
            return ""
        number, (_, stand, _, _) = steps[-1]
        member = (0, self.looks[0].beginning_of(self.passage.courses[number].pictures[stand]))
        for step in steps:
            member = self.behind(member, step)
        return self.word_at(member)
