"""Links gone backwards, and the levels of members from which they lead somewhere.

A link is (move, member), a level {member: (move, member behind it) on the way there, None for one that is there}.
"""


def backwards(links):
    """The links by the members to which they lead: {member: [(move, member ahead of it)]}."""
    found = {member: [] for member in links}
    for member in links:
        for move, behind in links[member]:
            found[behind].append((move, member))
    return found


def with_all_ahead(arrows, level):
    """The level with all members from which links lead to it."""
    found = {member: level[member] for member in level}
    left = list(found)
    while len(left) > 0:
        member = left.pop()
        for move, ahead in arrows[member]:
            if ahead not in found:
                found[ahead] = (move, member)
                left.append(ahead)
    return found


def moves_along(level, member):
    """The moves on the way from a member of a level."""
    found = []
    while level[member] is not None:
        move, member = level[member]
        found.append(move)
    return tuple(found)
