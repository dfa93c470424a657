"""A plain second reading of section 14, with plain searches and judges over exchanges, and drawn programs for them."""

import random
from unittest import mock

from lastasked.errors import TooMany
from lastasked.moments import moments
from lastasked.moves import after, moves
from lastasked.plain import plain_after, plain_first, plain_shown
from lastasked.programs import Program
from lastasked.rests import rests
from lastasked.stands import first_stand, shown
from tests.helper import Second, text_of, tree_of
from tests.searches import Lean, SecondPlain, is_pair, is_so_many, are_worths, levels_of, pictures

OVER = ("over",)


def over_lines(text):
    """What stands below over."""
    return [below for words, below in tree_of(text)[2][1] if words == ["over"]]


def second_over(elder, text):
    """The second reading of the newer text behind an exchange from the elder one, which is used up."""
    newer = Second(text)
    newer.house = elder.house
    for name in newer.firsts:
        if name not in elder.firsts:
            continue
        rows = name in elder.words["back"], name in newer.words["back"]
        if rows == (True, True):
            newer.cells[name] = elder.cells[name]
        else:
            newer.cells[name] = [["set", elder.worth(name), None]] if rows[1] else elder.worth(name)
    for ask in newer.stores:
        newer.stores[ask] = elder.stores.get(ask, {})
    newer.tasks = elder.tasks
    for task in newer.tasks:
        task["had"] = {name: task["had"][name] for name in task["had"] if name in newer.firsts and name not in newer.words["back"]}
    going, out = [], []
    for ask in newer.asks:
        held = [task for task in newer.tasks if task["ask"] == ask and task["phase"] == "held"]
        if newer.words["send"].get(ask) in ("latest", "resting"):
            going += held[:-1]
        elif newer.words["send"].get(ask) != "queued":
            out += held
    for task in newer.tasks[::-1]:
        if any(task is other for other in going):
            newer.take_back(task)
            newer.lose(task)
    for task in [task for task in newer.tasks if any(task is other for other in out)]:
        newer.sends(task)
    newer.queue = []
    for lines in over_lines(text):
        newer.handler(lines, None, None, {})
    while newer.queue:
        ask, worth, answer = newer.queue.pop(0)
        newer.handler(newer.handlers.get(("answer", ask), []), answer, worth, {})
    return newer


def stand_over(elder, newer, stand):
    """The stand behind an exchange, however many tasks are there."""
    return second_over(Second(elder.text, stand), newer.text).stand()


def plain_over(elder, newer, plain):
    """(plain stand, way)."""
    had = {row[0]: worth for row, worth in zip(elder.cells, plain[1])}
    screen = SecondPlain(newer.text, (plain[0], tuple(had.get(name, first) for name, first, _ in newer.cells)))
    return screen.way_of(sum(over_lines(newer.text), []), None, newer.text)


def steps_over(programs, many, bars, number, stand, plain):
    """(move, number of the program, stand, plain stand, way) for each possible move, the exchange among them."""
    program = programs[number]
    for move in moves(program, stand, many):
        behind, way = plain_after(program, plain, move[1], move[2]) if move[0] == "deed" else (plain, ())
        yield move, number, after(program, stand, move), behind, way
    if number + 1 < len(programs) and not any(task[0] in bars for task in stand[3]):
        behind = stand_over(program, programs[number + 1], stand)
        if len(behind[3]) <= many:
            yield OVER, number + 1, behind, *plain_over(program, programs[number + 1], plain)


def is_wrong_pair(program, stand, plain, houses):
    fails = shown(program, stand) != plain_shown(program, plain) or houses and stand[0] != plain[0]
    return not stand[3] and fails


def rests_over(programs, many, bars, houses=False, most=6000):
    """("right", set of members), ("wrong", fewest moves) or ("many",)."""
    found = set()
    first = (0, first_stand(programs[0]), plain_first(programs[0]))
    for length, level in enumerate(levels_of(first, lambda at: [step[1:4] for step in steps_over(programs, many, bars, *at)])):
        if any(is_wrong_pair(programs[number], stand, plain, houses) for number, stand, plain in level):
            return "wrong", length
        found.update(level)
        if len(found) > most:
            return ("many",)
    return "right", found


def moments_over(programs, many, bars, most=6000):
    """("right", set of members), ("wrong", fewest moves) or ("many",); was and since as sets of pictures."""
    def steps(state):
        for _, number, stand, plain, way in steps_over(programs, many, bars, *state[:3]):
            so = {picture for picture in way if picture is not None}
            since = state[4] | so
            shows = shown(programs[number], stand)
            if shows is not None and shows == plain_shown(programs[number], plain):
                since = frozenset([shows])
            yield number, stand, plain, state[3] | so, since
    shows = plain_shown(programs[0], plain_first(programs[0]))
    so = frozenset([] if shows is None else [shows])
    found = set()
    first = (0, first_stand(programs[0]), plain_first(programs[0]), so, so)
    for length, level in enumerate(levels_of(first, steps)):
        for number, stand, plain, was, since in level:
            shows = shown(programs[number], stand)
            if shows is not None and shows not in since:
                return "wrong", length
            found.update((number, stand, plain, picture, picture in was, picture in since) for picture in pictures(programs[0]))
        if len(found) > most:
            return ("many",)
    return "right", found


def look_over(programs, many, look, bars, most=6000):
    if look == "moments":
        return moments_over(programs, many, bars, most)
    return rests_over(programs, many, bars, look == "houses", most)


def led_over(programs, many, bars, story):
    """[(move, number, stand, plain stand, way)] behind each move of any value; None if it is no story."""
    if type(story) is not tuple:
        return None
    found, at = [], (0, first_stand(programs[0]), plain_first(programs[0]))
    for move in story:
        steps = [step for step in steps_over(programs, many, bars, *at) if repr(step[0]) == repr(move)]
        if not steps:
            return None
        found.append(steps[0])
        at = steps[0][1:4]
    return found


def is_wrong_over(programs, many, look, bars, story):
    """Whether any value is a story that is wrong by the look at its end."""
    steps = led_over(programs, many, bars, story)
    if not steps:
        return False
    _, number, stand, plain, _ = steps[-1]
    if look != "moments":
        return is_wrong_pair(programs[number], stand, plain, look == "houses")
    return word_over(programs, steps) in ("never", "elder")


def word_over(programs, steps):
    """The word of the last moment of these steps, or none."""
    picture = shown(programs[steps[-1][1]], steps[-1][2]) if steps else None
    was = since = picture == plain_shown(programs[0], plain_first(programs[0]))
    for _, number, stand, plain, way in steps:
        was = was or picture in way
        since = since or picture in way
        if shown(programs[number], stand) == plain_shown(programs[number], plain) is not None:
            since = picture == shown(programs[number], stand)
    if picture is None or was and since:
        return ""
    return "elder" if was else "never"


def judge_over(programs, many, look, bars, table):
    """A plain second judge of the tables of changing."""
    if type(table) is not tuple:
        return False
    for member in table:
        if type(member) is not tuple or len(member) != (6 if look == "moments" else 3) or not is_so_many(member[0], 0, len(programs) - 1):
            return False
        program = programs[member[0]]
        if not is_pair(program, *member[1:3]):
            return False
        if look == "moments":
            if not are_worths(program, member[3], len(program.shows)) or [type(part) for part in member[4:]] != [bool, bool]:
                return False
    if list(table) != sorted(set(table)):
        return False
    there = set(table)
    first = (0, first_stand(programs[0]), plain_first(programs[0]))
    so = plain_shown(programs[0], first[2])
    firsts = [first] if look != "moments" else [first + (picture, picture == so, picture == so) for picture in pictures(programs[0])]
    if not there.issuperset(firsts):
        return False
    for member in table:
        number, stand, plain = member[:3]
        if look != "moments" and is_wrong_pair(programs[number], stand, plain, look == "houses"):
            return False
        if look == "moments" and shown(programs[number], stand) == member[3] and not (member[4] and member[5]):
            return False
        for _, n, behind, later, way in steps_over(programs, many, bars, number, stand, plain):
            told = (n, behind, later)
            if look == "moments":
                _, _, _, picture, was, since = member
                shows = shown(programs[n], behind)
                up = shows is not None and shows == plain_shown(programs[n], later)
                told += (picture, was or picture in way, shows == picture if up else since or picture in way)
            if told not in there:
                return False
    return True


class Passing(Lean):
    """Draws programs with one house and other screens, which show as many cells; most have an over."""

    def programs(self, many):
        draw, house = self.draw, self.house_lines()
        shows = draw.randint(1, 2)
        found = []
        for _ in range(60 * many):
            if len(found) == many:
                break
            self.cells = draw.sample(["v", "w", "x"], draw.randint(shows, 3))
            screen = self.screen_lines()
            overs = [below for words, below in screen if words == ["over"]]
            if not overs and draw.random() < 0.6:
                screen.append((["over"], self.handler(self.cells, self.asks, 1)))
            if [len(words) - 1 for words, _ in screen if words[0] == "show"] == [shows]:
                found.append(Program(text_of([(["worths", str(self.worths)], []), (["house"], house), (["screen"], screen)])))
        return found


def drawn_programs(seed, many=2):
    """Drawn programs that can come in for one another; none if they were not found."""
    found = Passing(random.Random(seed)).programs(many)
    return tuple(found) if len(found) == many else ()


def is_fit(program, asks, look):
    """Whether a program that comes to few members is right by itself."""
    try:
        with mock.patch("lastasked.tables.MOST_MEMBERS", 400):
            found = moments(program, asks) if look == "moments" else rests(program, asks, houses=look == "houses")
    except TooMany:
        return False
    return found[0] == "right"


def fit_programs(seed, many, asks, look="rests"):
    """Such programs that are right by themselves for so many asks; none if they were not found."""
    fit = [program for program in Passing(random.Random(seed)).programs(14) if is_fit(program, asks, look)]
    return tuple(fit[:many]) if len(fit) >= many else ()
