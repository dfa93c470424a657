"""Tables and stories of a look: how they are found, and whether any value is one."""

from lastasked.errors import TooMany
from lastasked.values import is_ascending, is_row, is_word

MOST_MEMBERS = 6000


def explore(look):
    """({member: (the one ahead of it, move), None for a first one}, the first wrong member or None).

    Members come level by level, so the moves that led to one are of the fewest. If none is wrong, all have come.
    """
    ways = {member: None for member in look.beginnings()}
    level = list(ways)
    while len(level) > 0:
        # What is wrong from here on takes one move more than all these members.
        if len(ways) > MOST_MEMBERS:
            raise TooMany(MOST_MEMBERS)
        following = []
        for member in list(level):
            for move, behind in look.nexts(member):
                if behind in ways:
                    continue
                ways[behind] = (member, move)
                if look.word_at(behind) != "":
                    return ways, behind
                following.append(behind)
        level = following
    return ways, None


def ways_to_all(look, *, limited=True):
    """{member: (the one ahead of it, move), None for a first one} for all that come, of which none is called wrong.

    The moves that led to one are of the fewest.
    """
    ways = {member: None for member in look.beginnings()}
    level = list(ways)
    while len(level) > 0:
        following = []
        for member in list(level):
            for move, behind in look.nexts(member):
                if behind not in ways:
                    ways[behind] = (member, move)
                    following.append(behind)
            if limited and len(ways) > MOST_MEMBERS:
                raise TooMany(MOST_MEMBERS)
        level = following
    return ways


def search(look):
    """("right", table), or ("wrong", story, word) with a story of fewest moves."""
    ways, wrong = explore(look)
    if wrong is None:
        return "right", tuple(sorted([look.told(member) for member in list(ways)]))
    return "wrong", story_to(ways, wrong), look.word_at(wrong)


def story_to(ways, member):
    """The moves that led to a member."""
    story = []
    while ways[member] is not None:
        member, move = ways[member]
        story.append(move)
    return tuple(story[::-1])


def is_right_table(look, value):
    """Whether any value is a closed table of this look without a wrong member."""
    if not isinstance(value, tuple):
        return False
    members = [look.taken(part) for part in value]
    if None in members or not is_ascending(value):
        return False
    there = {member: True for member in members}
    if not all([member in there for member in look.beginnings()]):
        return False
    for member in members:
        if look.word_at(member) != "" or not all([behind in there for _, behind in look.nexts(member)]):
            return False
    return True


def is_right_result(look, value):
    """Whether any value is ("right", table) of this look."""
    return is_row(value, 2) and value[0] == "right" and is_right_table(look, value[1])


def look_through(named):
    """("right", a table for each look), or ("wrong", the name of the first look that is, story); (name, look) each."""
    tables = []
    for name, look in named:
        found = search(look)
        if found[0] == "wrong":
            return "wrong", name, found[1]
        tables.append(found[1])
    return "right", tuple(tables)


def are_right_tables(named, tables):
    """Whether any value is a right table for each look."""
    if not is_row(tables, len(named)):
        return False
    return all([is_right_table(look, table) for (_, look), table in zip(named, tables)])


def is_wrong_by(named, name, story):
    """Whether any values are the name of one of these looks and a story that is wrong by it."""
    return any([is_word(name, (other,)) and look.word_of(story) != "" for other, look in named])
