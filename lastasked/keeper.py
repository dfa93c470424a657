"""A keeper: it runs a program move by move."""

from lastasked.checks import MOST_LED_DEEDS, check_many
from lastasked.courses import Course
from lastasked.ends import StandsLook, is_outlook, tell_outlook
from lastasked.errors import BadDeeds, BadPrograms, Exchanged, NoMove, NothingToRedo, NothingToUndo
from lastasked.guards import guarded
from lastasked.moves import possible_moves
from lastasked.overs import OVER, do_suit
from lastasked.pages import first_page, page_behind, page_over, wrongs_of


class Keeper:
    """A program and its story so far. Beside the properties of the document it has:

    pages: a tuple of a page ahead of all moves and one behind each; undone: those that were taken back, the last first.
    """

    def __init__(self, program, many):
        check_many(many)
        self.many = many
        self.turn_to((first_page(program, many),), ())

    def turn_to(self, pages, undone):
        """Go on from these pages."""
        last = pages[-1]
        self.pages = pages
        self.undone = undone
        self.program = last.program
        self.programs = (pages[0].program,) + tuple([page.program for page in pages[1:] if page.move == OVER])
        self.stand = last.stand
        self.plain = last.plain
        self.shown = last.shown
        self.plain_shown = last.plain_shown
        self.story = tuple([page.move for page in pages[1:]])
        self.journal = "\n".join([page.rows for page in pages])

    def do(self, move):
        """Do any value that is a possible move; what is shown behind it."""
        page = page_behind(self.pages[-1], move, self.many)
        if page is None:
            raise NoMove(move)
        self.turn_to(self.pages + (page,), ())
        return self.shown

    def moves(self):
        """All possible moves, ascending."""
        return possible_moves(self.program, self.stand, self.many)

    def exchange(self, newer):
        """Let a newer program come in; what is shown behind this."""
        if not do_suit(self.program, newer):
            raise BadPrograms((self.program, newer))
        page = page_over(self.pages[-1], newer, self.many)
        if page is None:
            raise NoMove(OVER)
        self.turn_to(self.pages + (page,), ())
        return self.shown

    def undo(self):
        """Take the last move or exchange back."""
        if len(self.pages) == 1:
            raise NothingToUndo()
        self.turn_to(self.pages[:-1], (self.pages[-1],) + self.undone)

    def redo(self):
        """Do the last one that was taken back again."""
        if len(self.undone) == 0:
            raise NothingToRedo()
        self.turn_to(self.pages + self.undone[:1], self.undone[1:])

    def __iter__(self):
        return iter(self.story)

    def wrongs(self):
        """(number, word) of all moments so far that are wrong."""
        return wrongs_of(self.pages)

    def outlook(self):
        """What can be shown at a rest, if hands rest: ("sure", labels), or ("open", rows)."""
        return tell_outlook(look_from(self))

    def missing(self, offers, looks):
        """What guarded tells of the program, with the deeds of the story so far."""
        if len(self.programs) > 1:
            raise Exchanged()
        deeds = tuple([move for move in self.story if move[0] == "deed"])
        if len(deeds) > MOST_LED_DEEDS:
            raise BadDeeds(deeds)
        return guarded(self.program, offers, self.many, looks, deeds=deeds)

    def trial(self):
        """What is done in its block is not kept, if it is not asked to be."""
        return Trial(self)

    def tried(self, look, *, keep=False):
        """What a look at the keeper returns that is called within a trial."""
        with self.trial() as trial:
            found = look(self)
            if keep:
                trial.keep()
        return found

    def copy(self):
        """A keeper with the same content that goes on by itself."""
        other = Keeper(self.programs[0], self.many)
        other.turn_to(self.pages, self.undone)
        return other

    def __eq__(self, other):
        return (isinstance(other, Keeper) and self.many == other.many
                and self.programs == other.programs and self.story == other.story)


class Trial:
    """A block behind which a keeper is as it was ahead of it, if it is not kept.

    kept: True if it is to be kept, otherwise None.
    """

    def __init__(self, keeper):
        self.keeper = keeper
        self.kept = None

    def keep(self):
        """Let the keeper stay as it is at the end of the block, if no error leaves it."""
        self.kept = True

    def __enter__(self):
        self.kept = None
        self.ahead = self.keeper.copy()
        return self

    def __exit__(self, kind, value, trace):
        if kind is not None or self.kept is None:
            self.keeper.pages = self.ahead.pages
            self.keeper.undone = self.ahead.undone
            self.keeper.program = self.ahead.program
            self.keeper.programs = self.ahead.programs
            self.keeper.stand = self.ahead.stand
            self.keeper.plain = self.ahead.plain
            self.keeper.shown = self.ahead.shown
            self.keeper.plain_shown = self.ahead.plain_shown
            self.keeper.story = self.ahead.story
            self.keeper.journal = self.ahead.journal


def shows_outlook(keeper, value):
    """Whether any value is what the outlook of this keeper may tell, right by itself."""
    return is_outlook(look_from(keeper), value)


def look_from(keeper):
    """The look at the stands to which moves that are no deeds lead from where the keeper stands."""
    course = Course(keeper.program)
    return StandsLook(course, keeper.many, course.number_of(keeper.stand), [])
