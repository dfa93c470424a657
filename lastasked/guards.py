"""Guards of programs, and the cheapest ones that put a program right."""

from lastasked.checks import check_deeds, check_looks, check_many
from lastasked.choices import check_offers, choices_of
from lastasked.courses import Course
from lastasked.guard_texts import program_with
from lastasked.looks import looks_called
from lastasked.reasons import first_right, is_first_right


def with_guards(program, guards):
    """The program with any value that is guards that it can have together."""
    return program_with(program, guards)


def guarded(program, offers, many, looks, *, deeds=None):
    """("choice", price, choice, tables, reasons) of the cheapest right choice, or ("none", reasons)."""
    check_guarded(program, offers, many, looks, deeds)
    choices = choices_of(program, offers)
    return first_right("choice", choices, lambda made: looks_called(Course(made), looks, many, deeds))


def shows_guarded(program, offers, many, looks, value, *, deeds=None):
    """Whether any value is such a result, right by itself."""
    check_guarded(program, offers, many, looks, deeds)
    choices = choices_of(program, offers)
    return is_first_right("choice", choices, lambda made: looks_called(Course(made), looks, many, deeds), value)


def check_guarded(program, offers, many, looks, deeds):
    """Refuse wrong arguments of guarded."""
    check_offers(program, offers)
    check_many(many)
    check_looks(looks)
    check_deeds(program, deeds)
