"""Looks: tables of all members to which stories lead, and stories that go wrong.

A member is told as the document has it; while it is worked with, numbers of a course stand for its stands:
rests (stand, plain stand, deeds done), moments (stand, plain stand, picture, was, since, deeds done).
"""

from lastasked.stands import is_worths
from lastasked.values import is_below, is_row


class Look:
    """What rests and moments have in common: stories with so many asks under way, perhaps led by deeds."""

    def __init__(self, course, many, deeds):
        self.course = course
        self.many = many
        self.deeds = deeds

    def hands_at(self, done):
        """The deeds that can be done when so many are done."""
        return self.course.hands if self.deeds is None else self.deeds[done:done + 1]

    def done_behind(self, done, move):
        """How many deeds are done behind a move."""
        return done + 1 if self.deeds is not None and move[0] == "deed" else done

    def told_with(self, parts, done):
        """The parts of a member with how many deeds are done, if this is told."""
        return parts if self.deeds is None else parts + (done,)

    def parts_of(self, value, length):
        """The parts of any value that may be a member of so many parts, deeds done among them; None otherwise."""
        if self.deeds is None:
            return value + (0,) if is_row(value, length - 1) else None
        return value if is_row(value, length) and is_below(value[-1], len(self.deeds) + 1) else None

    def steps_of(self, story):
        """The steps of any value that is a story of this look; None otherwise."""
        steps = self.course.follow(story, self.many)
        if steps is None or self.deeds is None:
            return steps
        done = tuple([step[0] for step in steps if step[0][0] == "deed"])
        return steps if done == self.deeds[:len(done)] else None

    def word_of(self, story):
        """The word of what is wrong at the end of any value that is a story, or none."""
        steps = self.steps_of(story)
        if steps is None or len(steps) == 0:
            return ""
        member = self.beginning_of(self.course.pictures[steps[-1][1]])
        for step in steps:
            member = self.behind(member, step)
        return self.word_at(member)


class RestsLook(Look):
    """A rest is wrong that shows what the plain meaning does not; with houses also by the house's cells."""

    def __init__(self, course, many, deeds, houses):
        super().__init__(course, many, deeds)
        self.houses = houses

    def beginnings(self):
        """The members ahead of all moves."""
        return [self.beginning_of(None)]

    def beginning_of(self, picture):
        """The member ahead of all moves, of whatever picture."""
        return self.course.first, self.course.first_plain, 0

    def nexts(self, member):
        """(move, member) for each possible move."""
        steps = self.course.steps(member[0], member[1], self.many, self.hands_at(member[2]))
        return [(step[0], self.behind(member, step)) for step in steps]

    def behind(self, member, step):
        """The member behind a step."""
        return step[1], step[2], self.done_behind(member[2], step[0])

    def word_at(self, member):
        """The word of what is wrong, or none."""
        stand, plain, _ = member
        course = self.course
        if len(course.stands[stand][3]) > 0:
            return ""
        if course.pictures[stand] != course.plain_pictures[plain]:
            return "rest"
        return "rest" if self.houses and course.stands[stand][0] != course.plains[plain][0] else ""

    def told(self, member):
        """The member as it is told."""
        stand, plain, done = member
        return self.told_with((self.course.stands[stand], self.course.plains[plain]), done)

    def taken(self, value):
        """The member that any value tells; None if it tells none."""
        parts = self.parts_of(value, 3)
        pair = None if parts is None else self.course.pair_of(parts[0], parts[1])
        return None if pair is None else pair + (parts[2],)


class PairsLook(Look):
    """Pairs of a stand and a plain stand alone, of which none is called wrong."""

    def beginnings(self):
        """The members ahead of all moves."""
        return [(self.course.first, self.course.first_plain)]

    def nexts(self, member):
        """(move, member) for each possible move."""
        steps = self.course.steps(member[0], member[1], self.many, self.course.hands)
        return [(step[0], (step[1], step[2])) for step in steps]


class MomentsLook(Look):
    """A moment is wrong that shows what was never so, or what was so before the screen was last up to date."""

    def beginnings(self):
        """The members ahead of all moves."""
        return [self.beginning_of(picture) for picture in pictures_of(self.course.program)]

    def beginning_of(self, picture):
        """The member ahead of all moves, of this picture."""
        first, plain = self.course.first, self.course.first_plain
        holds = picture == self.course.plain_pictures[plain]
        return first, plain, picture, holds, holds, 0

    def nexts(self, member):
        """(move, member) for each possible move."""
        steps = self.course.steps(member[0], member[1], self.many, self.hands_at(member[5]))
        return [(step[0], self.behind(member, step)) for step in steps]

    def behind(self, member, step):
        """The member behind a step."""
        _, _, picture, was, since, done = member
        move, stand, plain, way = step
        shows = self.course.pictures[stand]
        was, since = known_behind(picture, was, since, shows, self.course.plain_pictures[plain], way)
        return stand, plain, picture, was, since, self.done_behind(done, move)

    def word_at(self, member):
        """The word of what is wrong, or none."""
        return moment_word(member[2], self.course.pictures[member[0]], member[3], member[4])

    def told(self, member):
        """The member as it is told."""
        stand, plain, picture, was, since, done = member
        return self.told_with((self.course.stands[stand], self.course.plains[plain], picture, was, since), done)

    def taken(self, value):
        """The member that any value tells; None if it tells none."""
        program = self.course.program
        parts = self.parts_of(value, 6)
        if parts is None or not is_worths(parts[2], len(program.shows), program.worths):
            return None
        if not isinstance(parts[3], bool) or not isinstance(parts[4], bool):
            return None
        pair = self.course.pair_of(parts[0], parts[1])
        return None if pair is None else pair + parts[2:]


def look_called(course, name, many, deeds=None):
    """The look of this name."""
    if name == "moments":
        return MomentsLook(course, many, deeds)
    return RestsLook(course, many, deeds, name == "houses")


def looks_called(course, names, many, deeds=None):
    """The looks of these names, each as (name, look)."""
    return [(name, look_called(course, name, many, deeds)) for name in names]


def known_behind(picture, was, since, shows, plain_shows, way):
    """Was and since of a picture behind a move with this way, by what is shown then, here and in the plain meaning."""
    was = was or picture in way
    if shows is not None and shows == plain_shows:
        return was, picture == shows
    return was, since or picture in way


def moment_word(picture, shows, was, since):
    """The word of what is wrong at a moment, or none."""
    if picture is None or picture != shows:
        return ""
    if not was:
        return "never"
    return "" if since else "elder"


def pictures_of(program):
    """All tuples of worths that can be shown, ascending."""
    found = [()]
    for _ in program.shows:
        found = [picture + (worth,) for picture in found for worth in range(program.worths)]
    return found
