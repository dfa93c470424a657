"""Whether it is settled, as soon as hands rest, what will be shown."""

from lastasked.arrows import moves_along
from lastasked.checks import check_many
from lastasked.courses import Course
from lastasked.ends import StandsLook, are_labels, ends_of, labels_of, rest_behind
from lastasked.tables import story_to, ways_to_all
from lastasked.values import is_row


def steady(program, many):
    """("steady", labels), or ("parts", story, one, other)."""
    check_many(many)
    course = Course(program)
    ways = ways_to_all(look_at_stands(course, many))
    ends = ends_of(course, list(ways))
    for stand in ways:
        levels = [level for level in ends.values() if stand in level]
        if len(levels) > 1:
            return "parts", story_to(ways, stand), moves_along(levels[0], stand), moves_along(levels[1], stand)
    return "steady", labels_of(course, ends)


def shows_steady(program, many, value):
    """Whether any value is such a result, right by itself."""
    check_many(many)
    look = look_at_stands(Course(program), many)
    if is_row(value, 4) and value[0] == "parts":
        return do_part(look, value[1], value[2], value[3])
    return is_row(value, 2) and value[0] == "steady" and are_labels(look, value[1])


def look_at_stands(course, many):
    """The look at all stands to which stories lead."""
    return StandsLook(course, many, course.first, course.hands)


def do_part(look, story, one, other):
    """Whether any values are a story and two courses from its end to rests that show unlike things."""
    steps = look.course.follow(story, look.many)
    if steps is None:
        return False
    stand = steps[-1][1] if len(steps) > 0 else look.first
    rests = [rest_behind(look, stand, one), rest_behind(look, stand, other)]
    if None in rests:
        return False
    return look.course.pictures[rests[0]] != look.course.pictures[rests[1]]
