"""Section 6: what is a stand by its form, and the first one."""

import random
import unittest

from lastasked.moves import after, moves
from lastasked.programs import Program
from lastasked.stands import first_stand, is_stand
from tests.helper import drawn_text, made, tree_of

PROGRAM = made(
    "worths 3", "house", "  cell n 0", "  cell m 1", "  ask one", "  ask late", "  ask rest", "screen", "  cell a 0", "  cell b 1",
    "  cell c 2", "  cell d 0", "  show a", "  send one one", "  send late latest", "  send rest resting", "  keep one only",
    "  keep rest both", "  back b redone", "  back d redone", "  deed go", "    anew")
QUEUE = made("worths 4", "house", "  ask many", "  ask queue", "screen", "  cell a 0", "  show a", "  send queue queued",
             "  deed go", "    anew")
TASKS = (
    ("one", 1, "answered", 2, "passed", (("a", 0), ("c", 2))), ("late", 0, "out", 0, "live", ()), ("one", 2, "out", 0, "off", ()),
    ("late", 1, "refused", 0, "live", (("c", 1),)), ("late", 2, "held", 0, "passed", ()), ("rest", 2, "held", 0, "live", (("a", 2),)))
STAND = (
    (2, 0), (1, (0, (("set", 1, 0), ("add", 0, 1), ("set", 0, -1), ("add", 2, 4))), 2, (2, (("add", 1, 5), ("add", 2, -1)))),
    (((0, 2), (2, 2)), ((1, 0),)), TASKS)


def strictly(value, kind):
    return type(value) is kind


def second_is_stand(text, value):
    """A plain second reading: each thing that the document asks of a stand, one behind the other."""
    tree = tree_of(text)
    worths, house, screen = int(tree[0][0][1]), tree[1][1], tree[2][1]
    cells = [words[1] for words, _ in screen if words[0] == "cell"]
    asks = [words[1] for words, _ in house if words[0] == "ask"]
    word = {kind: {words[1]: words[2] for words, _ in screen if words[0] == kind} for kind in ("send", "keep", "back")}
    redone, kept = [name for name in cells if name in word["back"]], [name for name in cells if name not in word["back"]]

    def worth(x):
        return strictly(x, int) and x in range(worths)

    def row(x, many=None):
        return strictly(x, tuple) and many in (None, len(x))

    if not (row(value, 4) and row(value[0], len([0 for words, _ in house if words[0] == "cell"])) and row(value[1], len(cells))
            and row(value[2], len([ask for ask in asks if ask in word["keep"]])) and row(value[3])):
        return False
    tasks = value[3]
    if not all(worth(x) for x in value[0]):
        return False
    for store in value[2]:
        if not row(store) or not all(row(pair, 2) and worth(pair[0]) and worth(pair[1]) for pair in store):
            return False
        asked = [pair[0] for pair in store]
        if asked != sorted(set(asked)):
            return False
    for task in tasks:
        if not row(task, 6) or not all(strictly(task[k], str) for k in (0, 2, 4)) or not worth(task[1]) or not worth(task[3]):
            return False
        ask, _, phase, answer, mark, guesses = task
        if ask not in asks or phase not in ("held", "out", "answered", "refused") or mark not in ("live", "passed", "off"):
            return False
        if answer != 0 and phase != "answered" or mark == "off" and phase != "out" or mark == "off" and guesses != ():
            return False
        if not row(guesses) or not all(row(pair, 2) and strictly(pair[0], str) and worth(pair[1]) for pair in guesses):
            return False
        names = [pair[0] for pair in guesses]
        if names != [name for name in kept if name in names]:
            return False
    phases = [task[2] for task in tasks]
    if phases != [phase for phase in phases if phase != "held"] + [phase for phase in phases if phase == "held"]:
        return False
    for ask in asks:
        most = {"queued": 99999, "latest": 1, "resting": 1}.get(word["send"].get(ask), 0)
        if len([0 for task in tasks if task[0] == ask and task[2] == "held"]) > most:
            return False
    for name, cell in zip(cells, value[1]):
        if name not in redone:
            if not worth(cell):
                return False
            continue
        if not row(cell, 2) or not worth(cell[0]) or not row(cell[1]):
            return False
        owner = -1
        owners = []
        for entry in cell[1]:
            if not row(entry, 3) or not strictly(entry[0], str) or entry[0] not in ("set", "add") or not worth(entry[1]):
                return False
            if not strictly(entry[2], int) or entry[2] not in range(-1, len(tasks)):
                return False
            if entry[2] == -1 and (owner == -1 or entry[:2] == ("add", 0)):
                return False
            owner = entry[2]
            if owner >= 0 and (tasks[owner][4] == "off" or owner in owners):
                return False
            owners.append(owner)
    return True


def changed(value):
    """All values that are this one with one thing otherwise, at any depth."""
    if type(value) is tuple:
        yield from (list(value), value + (0,), value + ((),), value[:-1], value[1:], value + value[-1:], value[:1] + value, value[::-1])
        for n, part in enumerate(value):
            for other in changed(part):
                yield value[:n] + (other,) + value[n + 1:]
            for m in range(n):
                yield value[:m] + (value[n],) + value[m + 1:n] + (value[m],) + value[n + 1:]
    elif type(value) is int:
        yield from (n for n in range(-3, 8) if n != value)
        yield from (bool(value), not value, None, str(value), (value,), [value], {value: value}, ())
    elif value is None or type(value) is bool:
        yield from (other for other in (True, False, None) if other is not value)
        yield from (0, 1, -1, str(value), (value,), [value], {0: value}, ())
    else:
        yield from ("", "held", "out", "answered", "refused", "live", "passed", "off", "set", "add", "one", "late", "rest", "a", "b",
                    "c", "d", "nothing", value + " ", value.upper(), None, 0, True, (value,), [value], {value: 0})


ANY = (0, 1, True, False, None, "", "stand", (), [], {}, ((),), ((), (), (), ()), [[], [], [], []], (0, 0, 0, 0), {"house": ()},
       (None,) * 4, ("",) * 4, ((), (), ()), ((), (), (), (), ()), (((((((),),),),),),))


class First(unittest.TestCase):
    def test_first(self):
        self.assertEqual(repr(first_stand(PROGRAM)), repr(((0, 1), (0, (1, ()), 2, (0, ())), ((), ()), ())))
        self.assertEqual(repr(first_stand(QUEUE)), repr(((), (0,), (), ())))

    def test_drawn(self):
        for seed in range(100):
            program = Program(drawn_text(random.Random(seed)))
            house, cells, stores, tasks = first_stand(program)
            self.assertEqual(house, tuple(worth for _, worth in program.house))
            self.assertEqual(cells, tuple((worth, ()) if back == "redone" else worth for _, worth, back in program.cells))
            self.assertEqual(stores, tuple(() for ask in program.asks if ask[3] != "none"))
            self.assertEqual(tasks, ())
            self.assertIs(is_stand(program, first_stand(program)), True)


class IsStand(unittest.TestCase):
    def holds(self, value, program=PROGRAM):
        self.assertIs(is_stand(program, value), True, value)
        self.assertIs(second_is_stand(program.text, value), True, value)

    def fails(self, value, program=PROGRAM):
        self.assertIs(is_stand(program, value), False, value)
        self.assertIs(second_is_stand(program.text, value), False, value)

    def tasks(self, *tasks, program=PROGRAM):
        first = first_stand(program)
        return first[:3] + (tasks,)

    def rows(self, b, d=(0, ())):
        return (STAND[0], (1, b, 2, d)) + STAND[2:]

    def test_rich(self):
        self.holds(STAND)

    def test_any_value(self):
        for value in ANY:
            self.fails(value)
        for n in range(4):
            for value in ANY:
                wanted = second_is_stand(PROGRAM.text, STAND[:n] + (value,) + STAND[n + 1:])
                self.assertIs(is_stand(PROGRAM, STAND[:n] + (value,) + STAND[n + 1:]), wanted)

    def test_deep_values(self):
        value = 0
        for depth in range(29):
            value = (value,) if depth < 15 else [value]
            for n in range(4):
                self.fails(STAND[:n] + (value,) + STAND[n + 1:])
            self.fails(value)

    def test_stands_that_come_from_no_moves(self):
        self.holds(((2, 2), (2, (2, ()), 2, (2, ())), (((0, 0), (1, 1), (2, 2)), ()), ()))
        self.holds(self.tasks(*[("one", 0, "out", 0, "live", ())] * 9))
        self.holds(self.tasks(("rest", 0, "out", 0, "passed", (("a", 1), ("c", 1)))))

    def test_house(self):
        for house in ((), (0,), (0, 0, 0), (3, 0), (-1, 0), (True, 0), (0, False), ("0", 0), [0, 0], (None, 0), 0, ((0, 0),)):
            self.fails((house,) + STAND[1:])

    def test_cells(self):
        for cells in ((), STAND[1][:3], STAND[1] + (0,), list(STAND[1]), (3,) + STAND[1][1:], (True,) + STAND[1][1:],
                      (-1,) + STAND[1][1:], ((1, ()),) + STAND[1][1:], (1, 0, 2, (0, ())), (1, (0, ()), 2, 0)):
            self.fails((STAND[0], cells) + STAND[2:])

    def test_stores(self):
        for stores in ((), ((),), ((), (), ()), [(), ()], ([], ()), (((0, 2), (0, 1)), ()), (((2, 0), (0, 0)), ()), (((0, 0), (0, 0)), ()),
                       (((0, 3),), ()), (((3, 0),), ()), (((-1, 0),), ()), (((0, True),), ()), (((False, 0),), ()), (((0,),), ()),
                       (((0, 0, 0),), ()), (([0, 0],), ()), ((0, 0), ()), ((0,), ()), (((0, None),), ()), ((("0", 0),), ())):
            self.fails(STAND[:2] + (stores,) + STAND[3:])
        self.holds(STAND[:2] + ((((0, 1), (1, 0), (2, 0)), ((0, 0),)),) + STAND[3:])

    def test_asks_phases_marks(self):
        for ask in ("one", "late", "rest"):
            for phase in ("out", "answered", "refused"):
                for mark in ("live", "passed"):
                    self.holds(self.tasks((ask, 0, phase, 0, mark, ())))
                    self.holds(self.tasks((ask, 2, phase, 0, mark, (("a", 2), ("c", 1)))))
        for task in (("two", 0, "out", 0, "live", ()), ("", 0, "out", 0, "live", ()), (0, 0, "out", 0, "live", ()),
                     ("one", 0, "in", 0, "live", ()), ("one", 0, "", 0, "live", ()), ("one", 0, 0, 0, "live", ()),
                     ("one", 0, "out", 0, "dead", ()), ("one", 0, "out", 0, "", ()), ("one", 0, "out", 0, None, ()),
                     ("one", 3, "out", 0, "live", ()), ("one", -1, "out", 0, "live", ()), ("one", True, "out", 0, "live", ()),
                     ("one", 0, "out", False, "live", ()), ("one", 0, "out", 0, "live"), ("one", 0, "out", 0, "live", (), ()),
                     ["one", 0, "out", 0, "live", ()], ("one", 0, "out", 0, "live", []), ("one", 0, "live", 0, "out", ()),
                     (["one"], 0, "out", 0, "live", ()), ("one", 0, ["out"], 0, "live", ()), ("one", 0, "out", 0, ["live"], ()),
                     ("one", 0, "out", 0, "live", 0), ("one", 0, "out", 0, "live", ""), ("one", 0, "out", 0, "live", None), 0, ()):
            self.fails(self.tasks(task))

    def test_answers(self):
        for answer in (0, 1, 2):
            self.holds(self.tasks(("one", 0, "answered", answer, "live", ())))
        for answer in (3, -1, True, None, "1"):
            self.fails(self.tasks(("one", 0, "answered", answer, "live", ())))
        for phase in ("out", "refused", "held"):
            for answer in (1, 2):
                self.fails(self.tasks(("late", 0, phase, answer, "live", ())))

    def test_off_ones(self):
        self.holds(self.tasks(("one", 2, "out", 0, "off", ())))
        for phase in ("held", "answered", "refused"):
            self.fails(self.tasks(("late", 2, phase, 0, "off", ())))
        self.fails(self.tasks(("one", 2, "out", 0, "off", (("a", 0),))))

    def test_held_ones(self):
        for mark in ("live", "passed"):
            for ask in ("late", "rest"):
                self.holds(self.tasks((ask, 1, "held", 0, mark, (("a", 1),))))
            self.fails(self.tasks(("one", 1, "held", 0, mark, ())))
        for ask in ("late", "rest"):
            self.fails(self.tasks((ask, 1, "held", 0, "live", ()), (ask, 1, "held", 0, "live", ())))
            self.fails(self.tasks((ask, 1, "held", 0, "live", ()), ("one", 1, "out", 0, "live", ())))
            self.fails(self.tasks((ask, 1, "held", 0, "live", ()), ("one", 1, "answered", 0, "live", ())))
            self.holds(self.tasks(("one", 1, "out", 0, "off", ()), (ask, 1, "held", 0, "live", ())))
        self.holds(self.tasks(("rest", 1, "held", 0, "live", ()), ("late", 1, "held", 0, "live", ())))

    def test_held_ones_of_queued_and_many(self):
        held = ("queue", 1, "held", 0, "live", ())
        for many in range(6):
            self.holds(self.tasks(*[held] * many, program=QUEUE), QUEUE)
        self.fails(self.tasks(held, ("queue", 1, "out", 0, "live", ()), program=QUEUE), QUEUE)
        self.fails(self.tasks(held, ("many", 1, "out", 0, "live", ()), held, program=QUEUE), QUEUE)
        self.fails(self.tasks(("many", 1, "held", 0, "live", ()), program=QUEUE), QUEUE)
        self.fails(self.tasks(held, ("many", 1, "held", 0, "live", ()), program=QUEUE), QUEUE)

    def test_guesses(self):
        for guesses in ((("b", 0),), (("d", 0),), (("e", 0),), (("c", 0), ("a", 0)), (("a", 0), ("a", 0)), (("a", 3),), (("a", -1),),
                        (("a", True),), (("a",),), (("a", 0, 0),), (["a", 0],), (("", 0),), ((0, 0),), ((["a"], 0),), ((None, 0),),
                        ("a", 0), ("a",), (("a", (0, ())),), (("a", 0), ("b", 0)), (("a", 0), ("b", 0), ("c", 0)), ((("a", 0),),)):
            self.fails(self.tasks(("one", 0, "out", 0, "live", guesses)))
        for guesses in ((("a", 2),), (("c", 0),), (("a", 0), ("c", 2))):
            self.holds(self.tasks(("one", 0, "out", 0, "live", guesses)))

    def test_rows(self):
        for row in ((0, ()), (2, (("set", 0, 0),)), (2, (("add", 0, 0),)), (0, (("add", 0, 1), ("add", 0, 0), ("set", 2, 5))),
                    (0, (("add", 0, 1), ("set", 0, -1))), (0, (("add", 0, 1), ("add", 2, -1), ("set", 0, 3), ("add", 1, -1)))):
            self.holds(self.rows(row))
            self.holds(self.rows((0, ()), row))
        for row in ((3, ()), (-1, ()), (True, ()), ("0", ()), (0,), (0, (), ()), [0, ()], (0, []), 0, (), (0, 0), (None, ()),
                    # of an off one, of none, no place
                    (0, (("set", 1, 2),)), (0, (("set", 1, 6),)), (0, (("set", 1, -2),)), (0, (("set", 1, True),)),
                    (0, (("set", 1, False),)), (0, (("set", 1, None),)), (0, (("set", 1, "0"),)), (0, (("set", 1, (0,)),)),
                    # twice of one task
                    (0, (("add", 1, 0), ("add", 1, 0))), (0, (("add", 1, 0), ("add", 1, 1), ("set", 1, 0))),
                    # sure ones at the beginning, beside one another, and for nothing
                    (0, (("set", 1, -1),)), (0, (("add", 1, -1), ("add", 1, 0))), (0, (("add", 1, 0), ("add", 1, -1), ("set", 1, -1))),
                    (0, (("add", 1, 0), ("add", 0, -1))), (0, (("add", 1, 0), ("add", 0, -1), ("add", 1, 1))),
                    # other forms
                    (0, (("sets", 1, 0),)), (0, (("mark", 0, -2),)), (0, ((0, 1, 0),)), (0, ((["set"], 1, 0),)), (0, (("set", 3, 0),)),
                    (0, (("set", -1, 0),)), (0, (("set", True, 0),)), (0, (("set", 1),)), (0, (("set", 1, 0, 0),)), (0, (["set", 1, 0],)),
                    (0, ("set", 1, 0)), (0, (0,)), (0, ((),))):
            self.fails(self.rows(row))
            self.fails(self.rows((0, ()), row))

    def test_each_row_by_itself(self):
        self.holds(self.rows((0, (("set", 1, 0),)), (0, (("add", 1, 0),))))

    def test_one_thing_otherwise(self):
        told = {True: 0, False: 0}
        for value in changed(STAND):
            wanted = second_is_stand(PROGRAM.text, value)
            told[wanted] += 1
            self.assertIs(is_stand(PROGRAM, value), wanted, value)
        self.assertGreater(told[True], 50)
        self.assertGreater(told[False], 1000)


class Drawn(unittest.TestCase):
    def test_stands_that_come_and_such_with_one_thing_otherwise(self):
        for seed in range(60):
            draw = random.Random(seed)
            program = Program(drawn_text(draw))
            stand = first_stand(program)
            for step in range(25):
                self.assertIs(is_stand(program, stand), True)
                if step % 8 == 7:
                    for value in changed(stand):
                        self.assertIs(is_stand(program, value), second_is_stand(program.text, value), (program.text, value))
                found = moves(program, stand, 4)
                if not found:
                    break
                stand = after(program, stand, draw.choice(found))

    def test_stands_of_other_programs(self):
        programs, stands = [], []
        for seed in range(40):
            draw = random.Random(seed)
            program = Program(drawn_text(draw))
            stand = first_stand(program)
            for _ in range(12):
                found = moves(program, stand, 3)
                if found:
                    stand = after(program, stand, draw.choice(found))
            programs.append(program)
            stands.append(stand)
        for program in programs:
            for stand in stands:
                self.assertIs(is_stand(program, stand), second_is_stand(program.text, stand))


if __name__ == "__main__":
    unittest.main()
