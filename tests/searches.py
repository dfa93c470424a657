"""Plain searches of the tests' own, and a plain second reading of section 7."""

import random

from lastasked.moves import after, moves
from lastasked.plain import plain_after, plain_first, plain_shown
from lastasked.programs import Program
from lastasked.stands import first_stand, shown
from tests.helper import Drawing, Second, drawn_text
from tests.test_stands import second_is_stand

FIND = ("worths 3", "house", "  ask find", "    answer it", "screen", "  cell x 0", "  show x", "  deed type upto 2",
        "    ask find it", "  answer find", "    set x it")


class SecondPlain(Second):
    """A deed in the plain meaning: the second reading of section 6 with all cells redone and no take, send and keep."""

    def __init__(self, text, plain):
        super().__init__(text)
        self.words = {"take": {}, "send": {}, "keep": {}, "back": {name: "redone" for name in self.firsts}}
        self.stores = {}
        self.house = dict(zip(self.house, plain[0]))
        self.cells = {name: [["set", worth, None]] for name, worth in zip(self.firsts, plain[1])}
        self.queue = []

    def deed(self, name, it, text):
        """(plain stand, way)."""
        return self.way_of(self.deeds[name][1], it, text)

    def way_of(self, lines, it, text):
        """(plain stand, way) behind these lines."""
        self.handler(lines, it, None, {})
        way = []
        while True:
            self.tasks = [task for task in self.tasks if task["mark"] != "off"]
            way.append(self.shown(text))
            if not self.tasks:
                return (tuple(self.house.values()), tuple(self.worth(name) for name in self.firsts)), tuple(way)
            task = self.tasks[0]
            self.does(task)
            self.comes(task)


def second_plain_after(program, plain, name, it):
    return SecondPlain(program.text, plain).deed(name, it, program.text)


def steps_from(program, many, stand, plain, deeds=None, done=0):
    """(move, stand, plain stand, way, deeds done) for each possible move."""
    for move in moves(program, stand, many):
        if move[0] != "deed":
            yield move, after(program, stand, move), plain, (), done
        elif deeds is None or deeds[done:done + 1] == (move,):
            behind, way = plain_after(program, plain, move[1], move[2])
            yield move, after(program, stand, move), behind, way, done + (deeds is not None)


def levels_of(first, steps):
    """Sets of what is come to with 0, 1, 2 .. moves and not with fewer."""
    seen, level = {first}, [first]
    while level:
        yield level
        following = []
        for state in level:
            for behind in steps(state):
                if behind not in seen:
                    seen.add(behind)
                    following.append(behind)
        level = following


def pairs_of(program, many, most=10 ** 9):
    """All pairs of a stand and a plain stand, or some more than this number."""
    found = set()
    for level in levels_of((first_stand(program), plain_first(program)),
                           lambda pair: [step[1:3] for step in steps_from(program, many, *pair)]):
        found.update(level)
        if len(found) > most:
            break
    return found


def second_rests(program, many, houses=False, deeds=None, most=6000):
    """("right", set of members), ("wrong", fewest moves), or ("many",)."""
    def steps(state):
        return [step[1:3] + step[4:] for step in steps_from(program, many, *state[:2], deeds, state[2])]
    found, count = set(), 0
    for number, level in enumerate(levels_of((first_stand(program), plain_first(program), 0), steps)):
        for stand, plain, _ in level:
            fails = shown(program, stand) != plain_shown(program, plain) or houses and stand[0] != plain[0]
            if not stand[3] and fails:
                return "wrong", number
        count += len(level)
        if count > most:
            return ("many",)
        found.update(state if deeds is not None else state[:2] for state in level)
    return "right", found


def pictures(program):
    found = [()]
    for _ in program.shows:
        found = [picture + (worth,) for picture in found for worth in range(program.worths)]
    return found


def moments_walk(program, many, deeds=None):
    """Levels of (stand, plain stand, pictures that were so, pictures that were so since, deeds done)."""
    def steps(state):
        for _, stand, plain, way, done in steps_from(program, many, state[0], state[1], deeds, state[4]):
            so = {picture for picture in way if picture is not None}
            since = state[3] | so
            shows = shown(program, stand)
            if shows is not None and shows == plain_shown(program, plain):
                since = frozenset([shows])
            yield stand, plain, state[2] | so, since, done
    shows = plain_shown(program, plain_first(program))
    so = frozenset([] if shows is None else [shows])
    return levels_of((first_stand(program), plain_first(program), so, so, 0), steps)


def second_moments(program, many, deeds=None, most=6000):
    """("right", set of members), ("wrong", fewest moves, words that can be so then), or ("many",)."""
    found = set()
    for number, level in enumerate(moments_walk(program, many, deeds)):
        words = set()
        for stand, plain, was, since, done in level:
            shows = shown(program, stand)
            if shows is not None and shows not in since:
                words.add("elder" if shows in was else "never")
            for picture in pictures(program):
                member = (stand, plain, picture, picture in was, picture in since)
                found.add(member if deeds is None else member + (done,))
        if words:
            return "wrong", number, words
        if len(found) > most:
            return ("many",)
    return "right", found


def second_led(program, story, many=10 ** 9):
    """[(stand, plain stand, way)] ahead of all moves and behind each of them."""
    found = [(first_stand(program), plain_first(program), ())]
    for move in story:
        stand, plain, way = found[-1][0], found[-1][1], ()
        if move[0] == "deed":
            plain, way = plain_after(program, plain, move[1], move[2])
            assert len(after(program, stand, move)[3]) <= many
        found.append((after(program, stand, move), plain, way))
    return found


def word_at_end(program, story, many=10 ** 9):
    """The word of the last moment of a story, or none."""
    found = second_led(program, story, many)
    picture = shown(program, found[-1][0])
    was = since = picture == plain_shown(program, found[0][1])
    for stand, plain, way in found[1:]:
        was = was or picture in way
        since = since or picture in way
        if shown(program, stand) == plain_shown(program, plain) is not None:
            since = picture == shown(program, stand)
    if picture is None or was and since:
        return ""
    return "elder" if was else "never"


def is_wrong_rest(program, story, many=10 ** 9, houses=False):
    stand, plain, _ = second_led(program, story, many)[-1]
    fails = shown(program, stand) != plain_shown(program, plain) or houses and stand[0] != plain[0]
    return not stand[3] and fails


def drawn_program(seed):
    return Program(drawn_text(random.Random(seed)))


class Lean(Drawing):
    """Draws programs that come to few members, most of them to a few hundred with two asks."""

    def __init__(self, draw):
        super().__init__(draw)
        self.worths = draw.choice([2, 2, 3])
        self.house = self.names(["n"], 0, 1)
        self.asks = self.names(["save", "load"], 1, 2)
        self.cells = self.names(["v", "w"], 1, 2)


class Counted(Lean):
    """Draws such programs without what bars any number of asks, but offs of asks that make guesses."""

    def choices(self, word, names, words):
        return super().choices(word, names, [choice for choice in words if choice not in ("queued", "rising", "redone")])

    def text(self):
        return "\n".join(row for row in super().text().split("\n") if row != "  in order")


def lean_programs(seeds, drawing=Lean):
    """(seed, program) of such drawn programs."""
    for seed in seeds:
        yield seed, Program(drawing(random.Random(seed)).text())


def drawn_deeds(draw, program, most):
    """A drawn tuple of deeds of the program."""
    hands = [("deed", name, it) for name, upto in program.deeds for it in range(upto + 1)]
    return tuple(draw.choice(hands) for _ in range(draw.randint(0, most)))


def is_so_many(value, least, most):
    return type(value) is int and least <= value <= most


def are_worths(program, value, many):
    return type(value) is tuple and len(value) == many and all(is_so_many(part, 0, program.worths - 1) for part in value)


def is_pair(program, stand, plain):
    if not second_is_stand(program.text, stand) or type(plain) is not tuple or len(plain) != 2:
        return False
    return are_worths(program, plain[0], len(program.house)) and are_worths(program, plain[1], len(program.cells))


def judge_rests(program, many, table, houses=False, deeds=None):
    """A plain second judge of tables of rests."""
    if type(table) is not tuple:
        return False
    for member in table:
        if type(member) is not tuple or len(member) != 2 + (deeds is not None) or not is_pair(program, *member[:2]):
            return False
        if deeds is not None and not is_so_many(member[2], 0, len(deeds)):
            return False
    if list(table) != sorted(set(table)):
        return False
    there = set(table)
    done = () if deeds is None else (0,)
    if (first_stand(program), plain_first(program)) + done not in there:
        return False
    for member in table:
        stand, plain = member[:2]
        fails = shown(program, stand) != plain_shown(program, plain) or houses and stand[0] != plain[0]
        if not stand[3] and fails:
            return False
        for step in steps_from(program, many, stand, plain, deeds, member[2] if deeds is not None else 0):
            if step[1:3] + (step[4:] if deeds is not None else ()) not in there:
                return False
    return True


def judge_moments(program, many, table, deeds=None):
    """A plain second judge of tables of moments."""
    if type(table) is not tuple:
        return False
    for member in table:
        if type(member) is not tuple or len(member) != 5 + (deeds is not None) or not is_pair(program, *member[:2]):
            return False
        if not are_worths(program, member[2], len(program.shows)) or [type(part) for part in member[3:5]] != [bool, bool]:
            return False
        if deeds is not None and not is_so_many(member[5], 0, len(deeds)):
            return False
    if list(table) != sorted(set(table)):
        return False
    there = set(table)
    first = plain_first(program)
    for picture in pictures(program):
        so = picture == plain_shown(program, first)
        if (first_stand(program), first, picture, so, so) + (() if deeds is None else (0,)) not in there:
            return False
    for member in table:
        stand, plain, picture, was, since = member[:5]
        if shown(program, stand) == picture and not (was and since):
            return False
        for _, behind, later, way, done in steps_from(program, many, stand, plain, deeds, member[5] if deeds is not None else 0):
            up = shown(program, behind) is not None and shown(program, behind) == plain_shown(program, later)
            then = shown(program, behind) == picture if up else since or picture in way
            if (behind, later, picture, was or picture in way, then) + (() if deeds is None else (done,)) not in there:
                return False
    return True


def is_story(program, many, story, deeds=None):
    """A plain second judge of stories."""
    if type(story) is not tuple:
        return False
    stand, done = first_stand(program), 0
    for move in story:
        if repr(move) not in [repr(other) for other in moves(program, stand, many)]:
            return False
        if move[0] == "deed" and deeds is not None:
            if deeds[done:done + 1] != (move,):
                return False
            done += 1
        stand = after(program, stand, move)
    return True


def judge_rests_value(program, many, value, houses=False, deeds=None):
    """A plain second judge of what rests tells."""
    if type(value) is not tuple or len(value) != 2 or value[0] not in ("right", "wrong") or type(value[0]) is not str:
        return False
    if value[0] == "right":
        return judge_rests(program, many, value[1], houses, deeds)
    return is_story(program, many, value[1], deeds) and is_wrong_rest(program, value[1], many, houses)


def judge_moments_value(program, many, value, deeds=None):
    """A plain second judge of what moments tells."""
    if type(value) is not tuple or len(value) not in (2, 3) or type(value[0]) is not str:
        return False
    if len(value) == 2:
        return value[0] == "right" and judge_moments(program, many, value[1], deeds)
    if value[0] != "wrong" or not is_story(program, many, value[1], deeds):
        return False
    return type(value[2]) is str and value[2] != "" and value[2] == word_at_end(program, value[1], many)


def closed_with(program, many, stand, plain):
    """All pairs to which moves lead from this one, with it."""
    found = set()
    for level in levels_of((stand, plain), lambda pair: [step[1:3] for step in steps_from(program, many, *pair)]):
        found.update(level)
    return found
