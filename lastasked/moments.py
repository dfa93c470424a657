"""Moments: what is shown at each of them, beside what was so."""

from lastasked.checks import check_deeds, check_many
from lastasked.courses import Course
from lastasked.looks import MomentsLook
from lastasked.tables import is_right_result, search
from lastasked.values import is_row


def moments(program, many, *, deeds=None):
    """("right", table), or ("wrong", story, word)."""
    check_many(many)
    check_deeds(program, deeds)
    return search(MomentsLook(Course(program), many, deeds))


def shows_moments(program, many, value, *, deeds=None):
    """Whether any value is such a result, right by itself."""
    check_many(many)
    check_deeds(program, deeds)
    look = MomentsLook(Course(program), many, deeds)
    if is_row(value, 3) and value[0] == "wrong":
        return is_wrong_moment(look, value[1], value[2])
    return is_right_result(look, value)


def is_wrong_moment(look, story, word):
    """Whether these are a story that ends at a wrong moment, and its word."""
    found = look.word_of(story)
    return found != "" and word == found
