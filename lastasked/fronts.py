"""What each choice of guards costs, and how long a wrong picture can stand with it."""

from lastasked.checks import check_looks, check_many
from lastasked.choices import check_offers, choices_of
from lastasked.courses import Course
from lastasked.looks import looks_called
from lastasked.standing import is_lasting, tell_lasting
from lastasked.tables import are_right_tables, is_wrong_by, look_through
from lastasked.values import is_row, is_same


def front(program, offers, many, looks):
    """("front", points, rows)."""
    check_front(program, offers, many, looks)
    rows = []
    right = []
    for price, choice, made in choices_of(program, offers):
        course = Course(made)
        found = look_through(looks_called(course, looks, many))
        if found[0] == "right":
            found = found + (tell_lasting(course, many, False),)
            right.append((price, found[2][1], choice))
        rows.append((choice, found))
    return "front", points_of(right), tuple(rows)


def shows_front(program, offers, many, looks, value):
    """Whether any value is such a result, right by itself."""
    check_front(program, offers, many, looks)
    choices = choices_of(program, offers)
    if not is_row(value, 3) or value[0] != "front" or not is_row(value[2], len(choices)):
        return False
    right = []
    for row, (price, choice, made) in zip(value[2], choices):
        if not is_row(row, 2) or not is_same(row[0], choice) or not is_told(Course(made), many, looks, row[1]):
            return False
        if row[1][0] == "right":
            right.append((price, row[1][2][1], choice))
    return is_same(value[1], points_of(right))


def check_front(program, offers, many, looks):
    """Refuse wrong arguments of front."""
    check_offers(program, offers)
    check_many(many)
    check_looks(looks)


def is_told(course, many, looks, value):
    """Whether any value is what a row of the front may tell of a choice."""
    if not is_row(value, 3):
        return False
    if value[0] == "wrong":
        return is_wrong_by(looks_called(course, looks, many), value[1], value[2])
    if value[0] != "right" or not are_right_tables(looks_called(course, looks, many), value[1]):
        return False
    return is_lasting(course, many, value[2], False)


def points_of(right):
    """Those of these (price, number, choice) that no other one beats; of alike ones the first."""
    points = []
    for point in sorted(right):
        if len(points) == 0 or point[1] < points[-1][1]:
            points.append(point)
    return tuple(points)
