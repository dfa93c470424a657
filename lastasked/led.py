"""Stories: moves from the first stand on, and what they lead to."""

from lastasked.checks import check_many
from lastasked.courses import Course
from lastasked.errors import BadStory


def led(program, many, story):
    """(stand, plain stand) behind a story."""
    check_many(many)
    if not isinstance(story, tuple):
        raise BadStory(0)
    course = Course(program)
    stand, plain = course.first, course.first_plain
    for number, move in enumerate(story, start=1):
        step = course.step_by(stand, plain, move, many)
        if step is None:
            raise BadStory(number)
        _, stand, plain, _ = step
    return course.stands[stand], course.plains[plain]
