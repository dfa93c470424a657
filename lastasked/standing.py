"""How long a wrong picture can stand in the stories of a course.

A pair is (stand, plain stand), by their numbers. A link is a move that counts: with hands one from a pair that is
astray to one that is and shows the same, without hands any that is no deed. The level of a number has the pairs from
which so many results can come: {pair: (move, pair behind it) on the way to the next result, None if none is needed}.
"""

from lastasked.arrows import backwards, with_all_ahead
from lastasked.looks import PairsLook
from lastasked.tables import story_to, ways_to_all
from lastasked.values import is_ascending, is_integer, is_row


def tell_lasting(course, many, hands):
    """("most", number, story, heights), or with hands ("endless", story, ring)."""
    look = PairsLook(course, many, None)
    ways = ways_to_all(look)
    links = {pair: links_of(look, pair, hands) for pair in list(ways)}
    levels = levels_of(backwards(links), [pair for pair in links if course.is_astray(pair)])
    if is_endless(levels):
        pair, ring = ring_of(levels[-1])
        return "endless", story_to(ways, pair), ring
    heights = {pair: -1 for pair in links}
    for number in range(len(levels)):
        for pair in levels[number]:
            heights[pair] = number
    rows = [(course.stands[stand], course.plains[plain], heights[(stand, plain)]) for stand, plain in heights]
    return "most", len(levels) - 1, longest_story(ways, levels), tuple(sorted(rows))


def links_of(look, pair, hands):
    """The links from a pair, each as (move, pair)."""
    steps = look.nexts(pair)
    if not hands:
        return [step for step in steps if step[0][0] != "deed"]
    return [step for step in steps if is_same_fault(look.course, pair, step[1])]


def is_same_fault(course, pair, other):
    """Whether both pairs are astray and show the same."""
    return course.is_astray(pair) and course.is_astray(other) and course.pictures[pair[0]] == course.pictures[other[0]]


def levels_of(arrows, astray):
    """The levels from number 0 on, none of them empty; the last two are alike if there is no greatest number."""
    level = with_all_ahead(arrows, {pair: None for pair in astray})
    levels = []
    while len(level) > 0:
        levels.append(level)
        if is_endless(levels):
            return levels
        last = {}
        for pair in level:
            for move, ahead in arrows[pair]:
                if move[0] == "comes":
                    last[ahead] = (move, pair)
        level = with_all_ahead(arrows, last)
    return levels


def is_endless(levels):
    """Whether results can come for ever: each level lies in the one ahead of it, so these are alike."""
    return len(levels) > 1 and len(levels[-1]) == len(levels[-2])


def ring_of(level):
    """(a pair, moves with a result among them that lead back to it), where each pair leads on for ever."""
    pair = next(iter(level), None)
    places = {}
    moves = []
    while pair not in places:
        places[pair] = len(moves)
        move, pair = level[pair]
        moves.append(move)
    return pair, tuple(moves[places[pair]:])


def longest_story(ways, levels):
    """A story in which the greatest number of results comes."""
    if len(levels) == 0:
        return ()
    number = len(levels) - 1
    pair = next(iter(levels[number]), None)
    story = list(story_to(ways, pair))
    while levels[number][pair] is not None:
        move, pair = levels[number][pair]
        story.append(move)
        if move[0] == "comes":
            number -= 1
    return tuple(story)


def is_lasting(course, many, value, hands):
    """Whether any value is what tell_lasting may tell."""
    look = PairsLook(course, many, None)
    if hands and is_row(value, 3) and value[0] == "endless":
        return is_ring(look, value[1], value[2])
    if not is_row(value, 4) or value[0] != "most":
        return False
    _, number, story, table = value
    if not is_integer(number) or number < -1:
        return False
    return are_heights(look, number, table, hands) and is_longest(look, number, story, hands)


def is_ring(look, story, ring):
    """Whether any values are a story and moves that go round from its end, a result among them, in one fault."""
    course = look.course
    lead = course.follow(story, look.many)
    if lead is None or len(lead) == 0:
        return False
    start = lead[-1][1:3]
    steps = course.follow(ring, look.many, start)
    if steps is None or not any([step[0][0] == "comes" for step in steps]):
        return False
    return steps[-1][1:3] == start and all([is_same_fault(course, start, step[1:3]) for step in steps])


def is_longest(look, number, story, hands):
    """Whether any value is a story that ends astray, with so many results; () if there is none."""
    if number == -1:
        return story == ()
    course = look.course
    steps = course.follow(story, look.many)
    if steps is None or len(steps) == 0 or not course.is_astray(steps[-1][1:3]):
        return False
    many = 0
    for n in range(len(steps) - 1, -1, -1):
        move = steps[n][0]
        ahead = steps[n - 1][1:3] if n > 0 else (course.first, course.first_plain)
        if not hands and move[0] == "deed" or hands and not is_same_fault(course, ahead, steps[n][1:3]):
            break
        if move[0] == "comes":
            many += 1
    return many == number


def are_heights(look, number, table, hands):
    """Whether any value is heights up to this number that fit, of pairs that are closed."""
    if not isinstance(table, tuple) or not all([is_row(row, 3) for row in table]):
        return False
    heights = {}
    for stand, plain, height in table:
        pair = look.course.pair_of(stand, plain)
        if pair is None or not is_integer(height) or not -1 <= height <= number:
            return False
        heights[pair] = height
    if len(heights) < len(table) or not is_ascending(table):
        return False
    if not all([member in heights for member in look.beginnings()]):
        return False
    return all([is_height(look, pair, heights, hands) for pair in heights])


def is_height(look, pair, heights, hands):
    """Whether the moves of this pair lead to pairs that have heights, and its own height fits to these."""
    if not all([behind in heights for _, behind in look.nexts(pair)]):
        return False
    if look.course.is_astray(pair) and heights[pair] < 0:
        return False
    for move, behind in links_of(look, pair, hands):
        height = heights[behind]
        if height > -1 and heights[pair] < height + (1 if move[0] == "comes" else 0):
            return False
    return True
