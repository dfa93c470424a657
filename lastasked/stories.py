"""The fewest of some deeds with which something goes wrong."""

from lastasked.checks import check_deeds, check_looks, check_many
from lastasked.choices import priced_choices
from lastasked.courses import Course
from lastasked.errors import BadDeeds
from lastasked.looks import looks_called
from lastasked.tables import are_right_tables, is_wrong_by, look_through
from lastasked.values import is_row, is_same

MOST_DEEDS = 6


def needed(program, many, looks, deeds):
    """("deeds", numbers, look, story, rows) of the first places of deeds that go wrong, or ("none", rows)."""
    check_needed(program, many, looks, deeds)
    course = Course(program)
    rows = []
    for numbers in places_by_size(deeds):
        found = look_through(looks_at(course, many, looks, deeds, numbers))
        if found[0] == "wrong":
            return "deeds", numbers, found[1], found[2], tuple(rows)
        rows.append((numbers, found[1]))
    return "none", tuple(rows)


def shows_needed(program, many, looks, deeds, value):
    """Whether any value is such a result, right by itself."""
    check_needed(program, many, looks, deeds)
    course = Course(program)
    places = places_by_size(deeds)
    if is_row(value, 2) and value[0] == "none":
        return are_right_rows(course, many, looks, deeds, places, value[1])
    if not is_row(value, 5) or value[0] != "deeds":
        return False
    _, numbers, name, story, rows = value
    found = [n for n in range(len(places)) if is_same(numbers, places[n])]
    if len(found) == 0 or not is_wrong_by(looks_at(course, many, looks, deeds, numbers), name, story):
        return False
    return are_right_rows(course, many, looks, deeds, places[:found[0]], rows)


def check_needed(program, many, looks, deeds):
    """Refuse wrong arguments of needed."""
    check_many(many)
    check_looks(looks)
    if not isinstance(deeds, tuple) or len(deeds) > MOST_DEEDS:
        raise BadDeeds(deeds)
    check_deeds(program, deeds)


def places_by_size(deeds):
    """All choices of places of deeds, by size."""
    return [numbers for _, numbers in priced_choices([(n, 1) for n in range(len(deeds))])]


def looks_at(course, many, looks, deeds, numbers):
    """The looks at stories of the deeds at these places."""
    return looks_called(course, looks, many, tuple([deeds[n] for n in numbers]))


def are_right_rows(course, many, looks, deeds, places, rows):
    """Whether any value tells for each of these choices of places, in sequence, right tables."""
    if not is_row(rows, len(places)):
        return False
    for row, numbers in zip(rows, places):
        if not is_row(row, 2) or not is_same(row[0], numbers):
            return False
        if not are_right_tables(looks_at(course, many, looks, deeds, numbers), row[1]):
            return False
    return True
