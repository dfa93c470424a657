"""Moments with any number of asks under way, and the least number with which something goes wrong."""

from lastasked.checks import check_many
from lastasked.courses import Course
from lastasked.crowds import Crowd, Rows, lies_in
from lastasked.errors import NotCounted, TooMany
from lastasked.listing import CHOICE_WORDS, Listing
from lastasked.looks import MomentsLook
from lastasked.moments import is_wrong_moment
from lastasked.tables import MOST_MEMBERS, is_right_table, search
from lastasked.values import is_ascending, is_integer, is_row

GREATEST_BOUNDS = (1, 2, 3)
# More asks than any story can make.
UNBOUNDED = 1000000000000000000


def ever(program):
    """("right", table), or ("wrong", story, word), of any number of asks."""
    check_counted(program)
    course = Course(program)
    # If moments of some number is wrong, so are the rows for each: these looks come first, as rows take longer.
    crowds = []
    is_told = True
    for most in GREATEST_BOUNDS:
        if is_told:
            crowds.append(Crowd(course, most))
            found = moments_if_told(course, most)
            if found[0] == "wrong":
                return found
            is_told = found[0] == "right"
    rows = first_right_rows(crowds)
    if rows is None:
        raise TooMany(MOST_MEMBERS)
    return "right", rows


def moments_if_told(course, many):
    """What moments tells, ("untold",) if it tells nothing."""
    try:
        return search(MomentsLook(course, many, None))
    except TooMany:
        return ("untold",)


def first_right_rows(crowds):
    """The first table of rows of which none is wrong; None if there is none, or it is too large."""
    for n in range(len(crowds)):
        word, rows = look_at_rows(crowds[n], MOST_MEMBERS)
        if word == "right":
            return rows if len(rows) <= MOST_MEMBERS else None
        if word == "many":
            # It is too large, or a wrong one is still to come: only then it counts what is told behind it.
            later = first_right_rows(crowds[n + 1:])
            return later if later is None or look_at_rows(crowds[n], None)[0] == "wrong" else None
    return None


def shows_ever(program, value):
    """Whether any value is such a result, right by itself."""
    check_counted(program)
    course = Course(program)
    if is_row(value, 3) and value[0] == "wrong":
        return is_wrong_moment(MomentsLook(course, UNBOUNDED, None), value[1], value[2])
    return is_row(value, 2) and value[0] == "right" and are_right_rows(Crowd(course), value[1])


def least_many(program, many):
    """("from", the least number with which moments goes wrong, story, table for one less), or ("right", table)."""
    check_many(many)
    course = Course(program)
    table = ()
    for number in range(1, many + 1):
        found = search(MomentsLook(course, number, None))
        if found[0] == "wrong":
            return "from", number, found[1], table
        table = found[1]
    return "right", table


def shows_least_many(program, many, value):
    """Whether any value is such a result, right by itself."""
    check_many(many)
    course = Course(program)
    if is_row(value, 2) and value[0] == "right":
        return is_right_table(MomentsLook(course, many, None), value[1])
    if not is_row(value, 4) or value[0] != "from":
        return False
    _, number, story, table = value
    if not is_integer(number) or not 1 <= number <= many:
        return False
    if MomentsLook(course, number, None).word_of(story) == "":
        return False
    return table == () if number == 1 else is_right_table(MomentsLook(course, number - 1, None), table)


def check_counted(program):
    """Refuse a program that hangs on the sequence of its tasks, by the first line that tells so."""
    listing = Listing(program.text)
    guessing = [listing.words_at(line)[1] for line in listing.numbers() if is_guessing(listing, line)]
    for line in listing.numbers():
        if not is_counted(program, listing, line, guessing):
            raise NotCounted(line)


def is_guessing(listing, line):
    """Whether an ask statement with guesses stands at this line."""
    return listing.is_statement(line, "ask") and len(listing.words_at(line)) > 3


def is_counted(program, listing, line, guessing):
    """Whether a program with this line can be judged for any number of asks; guessing are asks that make guesses."""
    if listing.rows[line - 1] == "  in order":
        return False
    words = listing.words_at(line)
    if listing.is_part(line, CHOICE_WORDS):
        return words[2] not in ("queued", "rising", "redone")
    if listing.is_statement(line, "off") and words[1] in guessing:
        return program.sends[words[1]] in ("one", "latest")
    return True


def look_at_rows(crowd, limit):
    """("right", the table of all rows that lie in no other one), or ("wrong", ()) if one is wrong.

    ("many", ()) if more controls than the limit come ahead of a wrong one, None being no limit.
    """
    many = count_controls(crowd)
    if many is None:
        return "wrong", ()
    rows = Rows(crowd.most)
    for row in crowd.beginnings():
        rows.put_row(row)
    while len(rows.left) > 0:
        # Each control has a row that lies in no other one.
        if limit is not None and max(many, len(rows.found)) > limit:
            return "many", ()
        row = rows.next_left()
        if row is None:
            continue
        for behind in crowd.nexts(row):
            if crowd.word_at(behind) != "":
                return "wrong", ()
            rows.put_row(behind)
    found = [(control, bounds) for control in rows.found for bounds in rows.found[control]]
    return "right", tuple(sorted([crowd.told(row) for row in found]))


def count_controls(crowd):
    """How many controls there are at least, more than MOST_MEMBERS being enough; None if a wrong one was seen.

    Of each control only the first row that comes is followed, which is far less than all rows.
    """
    level = crowd.beginnings()
    controls = {row[0]: True for row in level}
    while len(level) > 0 and len(controls) <= MOST_MEMBERS:
        following = []
        for row in list(level):
            for behind in crowd.nexts(row):
                if crowd.word_at(behind) != "":
                    return None
                if behind[0] not in controls:
                    controls[behind[0]] = True
                    following.append(behind)
        level = following
    return len(controls)


def are_right_rows(crowd, value):
    """Whether any value is a closed table of rows without a wrong one."""
    if not isinstance(value, tuple):
        return False
    rows = [crowd.taken(part) for part in value]
    if None in rows or not is_ascending(value):
        return False
    found = {}
    for control, bounds in rows:
        found.setdefault(control, []).append(dict(bounds))
    if not all([is_covered(found, row) for row in crowd.beginnings()]):
        return False
    for row in rows:
        if crowd.word_at(row) != "" or not all([is_covered(found, behind) for behind in crowd.nexts(row)]):
            return False
    return True


def is_covered(found, row):
    """Whether a row lies in one of those that were found."""
    return any([lies_in(row[1], many) for many in found.get(row[0], [])])
