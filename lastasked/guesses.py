"""Guesses that lie one upon the other."""

from lastasked.checks import check_many
from lastasked.marks import MarksLook
from lastasked.tables import is_right_table, story_to, ways_to_all
from lastasked.values import is_row, is_same


def upon(program, many):
    """(rows, table): for each two ask statements that guess a cell a story to where both guesses are."""
    check_many(many)
    look = MarksLook(program, many)
    ways = ways_to_all(look)
    lies = {}
    for member in ways:
        for key in look.lies_at(member):
            lies.setdefault(key, member)
    stories = [story_to(ways, lies[key]) if key in lies else () for key in look.wanted()]
    rows = [key + (story,) for key, story in zip(look.wanted(), stories)]
    return tuple(rows), tuple(sorted([look.told(member) for member in ways]))


def shows_upon(program, many, value):
    """Whether any value is such a result, right by itself."""
    check_many(many)
    look = MarksLook(program, many)
    if not is_row(value, 2) or not is_right_table(look, value[1]):
        return False
    rows, table = value
    wanted = look.wanted()
    if not is_row(rows, len(wanted)) or not all([is_row(row, 4) for row in rows]):
        return False
    lies = {key: True for part in table for key in look.lies_at(look.taken(part))}
    for row, key in zip(rows, wanted):
        if not is_same(row[:3], key) or not is_told(look, key, row[3], lies):
            return False
    return True


def is_told(look, key, story, lies):
    """Whether any value is a story to where these guesses lie one upon the other, or () if they never do."""
    if story == ():
        return key not in lies
    member = look.member_behind(story)
    return member is not None and key in look.lies_at(member)
