"""A plain second reading of section 12: tasks with the lines that made them, and what comes of stands without deeds."""

from lastasked.moves import after, moves
from lastasked.stands import first_stand, shown
from tests.helper import Second, tree_of
from tests.searches import levels_of


class Marked(Second):
    """The second reading with, for each task, the line of its ask statement and when it was made."""

    def __init__(self, text, member):
        self.lines = {}
        tree = tree_of(text)
        self.number(tree)
        super().__init__(text, member[0])
        for words, below in tree[2][1]:
            if words[0] == "deed":
                self.deeds[words[1]] = (self.deeds[words[1]][0], below)
            elif words[0] in ("answer", "refused"):
                self.handlers[words[0], words[1]] = below
        self.made = 100
        for task, (line, ahead, _) in zip(self.tasks, member[1]):
            task["line"], task["made"] = line, ahead

    def number(self, tree):
        for words, below in tree:
            self.lines[id(words)] = len(self.lines) + 1, words
            self.number(below)

    def ways(self, lines, worth):
        for words, below in super().ways(lines, worth):
            if id(words) in self.lines:
                self.at = self.lines[id(words)][0]
            yield words, below

    def join(self, task):
        if "line" not in task:
            self.made += 1
            task["line"], task["made"] = self.at, self.made
        super().join(task)

    def member(self):
        """(stand, marks)."""
        marks = []
        for task in self.tasks:
            ahead = len([0 for other in self.tasks if other["made"] < task["made"]])
            rows = [name for name in self.words["back"] if any(entry[2] is task for entry in self.cells[name])]
            marks.append((task["line"], ahead, tuple(sorted(list(task["had"]) + rows))))
        return self.stand(), tuple(marks)


def member_behind(program, member, move):
    second = Marked(program.text, member)
    second.do(move)
    return second.member()


def members_by_moves(program, many, most=6000):
    """{member: fewest moves}, or None if there are more."""
    found = {}
    def steps(member):
        return [member_behind(program, member, move) for move in moves(program, member[0], many)]
    for length, level in enumerate(levels_of((first_stand(program), ()), steps)):
        found.update({member: length for member in level})
        if len(found) > most:
            return None
    return found


def guessing(program):
    """(line, cell) of all guesses, as the words of the text tell."""
    found = []
    for line, row in enumerate(program.text.split("\n"), 1):
        words = row.split()
        if words[0] == "ask" and row.startswith("    "):
            found += [(line, words[n + 1]) for n in (3, 7) if words[n:n + 1] == ["guess"]]
    return found


def keys_of(program):
    found = guessing(program)
    return sorted((lower, upper, cell) for lower, cell in found for upper, other in found if cell == other)


def lies(member, key):
    """Whether guesses of these two statements lie one upon the other."""
    lower, upper, cell = key
    return any(one[0] == lower and two[0] == upper and one[1] < two[1] and cell in one[2] and cell in two[2]
               for one in member[1] for two in member[1])


def stands_by_moves(program, many, first=None, deeds=True):
    """{stand: fewest moves}."""
    found = {}
    def steps(stand):
        return [after(program, stand, move) for move in moves(program, stand, many) if deeds or move[0] != "deed"]
    for length, level in enumerate(levels_of(first_stand(program) if first is None else first, steps)):
        found.update({stand: length for stand in level})
    return found


def ends_from(program, stand, known):
    """The set of what can be shown at rests to which moves that are no deeds lead; known keeps it."""
    if stand not in known:
        found = {shown(program, stand)} if not stand[3] else set()
        for move in moves(program, stand, 1):
            if move[0] != "deed":
                found |= ends_from(program, after(program, stand, move), known)
        known[stand] = found
    return known[stand]


def rest_by(program, stand, many, course):
    """The rest behind any value that is a course without deeds; None otherwise."""
    if type(course) is not tuple:
        return None
    for move in course:
        if repr(move) not in [repr(other) for other in moves(program, stand, many) if other[0] != "deed"]:
            return None
        stand = after(program, stand, move)
    return None if stand[3] else stand
