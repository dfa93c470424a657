"""Guards of programs, and the cheapest ones that put a program right."""

from lastasked.checks import check_deeds, check_looks, check_many
from lastasked.choices import are_right_tables, check_offers, choices_of, is_wrong_by, look_through
from lastasked.courses import Course
from lastasked.guard_texts import program_with
from lastasked.values import is_row, is_same


def with_guards(program, guards):
    """The program with any value that is guards that it can have together."""
    return program_with(program, guards)


def guarded(program, offers, many, looks, *, deeds=None):
    """("choice", price, choice, tables, reasons) of the cheapest right choice, or ("none", reasons)."""
    check_guarded(program, offers, many, looks, deeds)
    reasons = []
    for price, choice, made in choices_of(program, offers):
        found = look_through(Course(made), many, looks, deeds)
        if found[0] == "right":
            return "choice", price, choice, found[1], tuple(reasons)
        reasons.append((choice, found[1], found[2]))
    return "none", tuple(reasons)


def shows_guarded(program, offers, many, looks, value, *, deeds=None):
    """Whether any value is such a result, right by itself."""
    check_guarded(program, offers, many, looks, deeds)
    rows = choices_of(program, offers)
    if is_row(value, 2) and value[0] == "none":
        return are_reasons(rows, many, looks, value[1], deeds)
    if not is_row(value, 5) or value[0] != "choice":
        return False
    _, price, choice, tables, reasons = value
    places = [n for n in range(len(rows)) if is_same((price, choice), rows[n][:2])]
    if len(places) == 0 or not are_reasons(rows[:places[0]], many, looks, reasons, deeds):
        return False
    return are_right_tables(Course(rows[places[0]][2]), many, looks, tables, deeds)


def check_guarded(program, offers, many, looks, deeds):
    """Refuse wrong arguments of guarded."""
    check_offers(program, offers)
    check_many(many)
    check_looks(looks)
    check_deeds(program, deeds)


def are_reasons(rows, many, looks, reasons, deeds):
    """Whether any value tells for each of these choices, in sequence, a look and a story by which it is wrong."""
    if not is_row(reasons, len(rows)):
        return False
    for reason, row in zip(reasons, rows):
        if not is_row(reason, 3) or not is_same(reason[0], row[1]):
            return False
        if not is_wrong_by(Course(row[2]), many, looks, reason[1], reason[2], deeds):
            return False
    return True
