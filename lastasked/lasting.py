"""How long a wrong picture can stand: results that come while it does."""

from lastasked.checks import check_many
from lastasked.courses import Course
from lastasked.standing import is_lasting, tell_lasting


def lasting(program, many, *, hands=True):
    """("most", number, story, heights), or with hands ("endless", story, ring)."""
    check_many(many)
    return tell_lasting(Course(program), many, hands)


def shows_lasting(program, many, value, *, hands=True):
    """Whether any value is such a result, right by itself."""
    check_many(many)
    return is_lasting(Course(program), many, value, hands)
