"""Rests: what is shown when nothing is under way, beside what the plain meaning shows."""

from lastasked.checks import check_deeds, check_many
from lastasked.courses import Course
from lastasked.looks import RestsLook
from lastasked.tables import is_right_result, search
from lastasked.values import is_row


def rests(program, many, *, houses=False, deeds=None):
    """("right", table), or ("wrong", story)."""
    check_many(many)
    check_deeds(program, deeds)
    return search(RestsLook(Course(program), many, deeds, houses))[:2]


def shows_rests(program, many, value, *, houses=False, deeds=None):
    """Whether any value is such a result, right by itself."""
    check_many(many)
    check_deeds(program, deeds)
    look = RestsLook(Course(program), many, deeds, houses)
    if is_row(value, 2) and value[0] == "wrong":
        return look.word_of(value[1]) != ""
    return is_right_result(look, value)
