"""A program while stories are looked for: what comes behind its moves is worked out once."""

from lastasked.moves import after_deed, after_task, is_possible, task_moves
from lastasked.plain import is_plain, plain_after, plain_first, plain_shown
from lastasked.stands import first_stand, is_stand, shown


class Course:
    """A program with its stands and plain stands that were come by, each known by its number here.

    stands, pictures: each stand, and what is shown there; plains, plain_pictures: likewise;
    hands: all deeds with their worths.
    """

    def __init__(self, program):
        self.program = program
        self.stands = []
        self.pictures = []
        self.plains = []
        self.plain_pictures = []
        self.hands = [("deed", name, it) for name, upto in program.deeds for it in range(upto + 1)]
        self.stand_numbers = {}
        self.plain_numbers = {}
        self.behind_deeds = {}
        self.behind_tasks = {}
        self.behind_plains = {}
        self.first = self.number_of(first_stand(program))
        self.first_plain = self.plain_number_of(plain_first(program))

    def number_of(self, stand):
        """The number of a stand."""
        number = self.stand_numbers.setdefault(stand, len(self.stands))
        if number == len(self.stands):
            self.stands.append(stand)
            self.pictures.append(shown(self.program, stand))
        return number

    def plain_number_of(self, plain):
        """The number of a plain stand."""
        number = self.plain_numbers.setdefault(plain, len(self.plains))
        if number == len(self.plains):
            self.plains.append(plain)
            self.plain_pictures.append(plain_shown(self.program, plain))
        return number

    def pair_of(self, stand, plain):
        """The numbers of any values that are a stand and a plain stand by their form; None otherwise."""
        if not is_stand(self.program, stand) or not is_plain(self.program, plain):
            return None
        return self.number_of(stand), self.plain_number_of(plain)

    def is_astray(self, pair):
        """Whether the screen shows something, and the plain meaning does not."""
        shows = self.pictures[pair[0]]
        return shows is not None and shows != self.plain_pictures[pair[1]]

    def behind_deed(self, stand, move):
        """The stand behind a deed."""
        key = (stand, move)
        if key not in self.behind_deeds:
            screen = after_deed(self.program, self.stands[stand], move[1], move[2])
            self.behind_deeds[key] = self.number_of(screen.as_stand())
        return self.behind_deeds[key]

    def behind_others(self, stand):
        """{move: the stand behind it} for all possible moves that are no deeds."""
        if stand not in self.behind_tasks:
            found = {}
            for word, n in task_moves(self.program, self.stands[stand][3]):
                screen = after_task(self.program, self.stands[stand], word, n)
                found[(word, n)] = self.number_of(screen.as_stand())
            self.behind_tasks[stand] = found
        return self.behind_tasks[stand]

    def behind_other(self, stand, move):
        """The stand behind a possible move that is no deed. In a story it is not asked what the others lead to."""
        if stand in self.behind_tasks:
            return self.behind_tasks[stand][move]
        return self.number_of(after_task(self.program, self.stands[stand], move[0], move[1]).as_stand())

    def plain_behind(self, plain, move):
        """(the plain stand behind a deed, its way)."""
        key = (plain, move)
        if key not in self.behind_plains:
            behind, way = plain_after(self.program, self.plains[plain], move[1], move[2])
            self.behind_plains[key] = (self.plain_number_of(behind), way)
        return self.behind_plains[key]

    def is_let(self, stand, many):
        """Whether a deed may have led to this stand with so many asks under way at most."""
        return len(self.stands[stand][3]) <= many

    def steps(self, stand, plain, many, hands):
        """(move, stand, plain stand, way) for all possible moves, of deeds for these alone."""
        found = [(move, behind, plain, ()) for move, behind in self.behind_others(stand).items()]
        for move in hands:
            behind = self.behind_deed(stand, move)
            if self.is_let(behind, many):
                found.append((move, behind) + self.plain_behind(plain, move))
        return found

    def step_by(self, stand, plain, move, many):
        """(move, stand, plain stand, way) behind any value; None if it is no move that is possible."""
        if not is_possible(self.program, self.stands[stand], move):
            return None
        if move[0] != "deed":
            return move, self.behind_other(stand, move), plain, ()
        behind = self.behind_deed(stand, move)
        return (move, behind) + self.plain_behind(plain, move) if self.is_let(behind, many) else None

    def follow(self, story, many, pair=None):
        """The steps of any value that is moves on from this pair, or from the first one; None if it is none."""
        if not isinstance(story, tuple):
            return None
        stand, plain = (self.first, self.first_plain) if pair is None else pair
        steps = []
        for move in story:
            step = self.step_by(stand, plain, move, many)
            if step is None:
                return None
            _, stand, plain, _ = step
            steps.append(step)
        return steps
