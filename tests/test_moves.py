"""Section 6: moves, ascending and for each number of asks; after, and what is no move."""

import random
import unittest

from lastasked.errors import BadMany, NoMove
from lastasked.moves import after, moves
from lastasked.programs import Program
from lastasked.stands import first_stand, is_stand
from tests.helper import behind, comes, deed, does, drawn_text, gone, made, sends

PROGRAM = ("worths 4", "house", "  ask save", "    if it = 3", "      refuse", "    answer it", "  ask load", "screen",
           "  cell c 0", "  show c", "  send load resting", "  deed zip upto 2", "    ask save it", "  deed aa",
           "    ask load 0", "    ask save 0", "  deed stop upto 3", "    if it = 1", "      off save")

# What is no move anywhere, whatever the stand.
STRANGE = (
    0, 1, -1, True, False, None, "", "does", "does 0", "aa", (), [], {}, ("does",), ("deed",), ("over",), ("deed", "aa"),
    ["does", 0], ["deed", "aa", 0], (["does", 0],), (("does", 0),), ("does", True), ("does", False), ("comes", False),
    ("sends", False), ("gone", False), ("does", None), ("does", "0"), ("does", (0,)), ("does", [0]), ("does", {0: 0}),
    ("does", -1), ("comes", -1), ("gone", -1), ("sends", -1), ("does", 99), ("comes", 99), ("gone", 99), ("sends", 99),
    ("does", 0, 0), ("comes", 0, 0), ("does", 0, "x"), ("do", 0), ("Does", 0), ("out", 0), ("held", 0), (0, "does"), (0, 0),
    (True, 0), (None, 0), (("does",), 0), (["does"], 0), ({"does": 0}, 0), ("aa", 0), ("deed", 0), ("deed", "aa", True),
    ("deed", "aa", False), ("deed", "aa", 1), ("deed", "aa", -1), ("deed", "aa", None), ("deed", "aa", "0"), ("deed", "aa", (0,)),
    ("deed", "aa", [0]), ("deed", "aa", {}), ("deed", "zip", 3), ("deed", "zip", -1), ("deed", "zip", True), ("deed", "zip", False),
    ("deed", "stop", 4), ("deed", "nothing", 0), ("deed", "save", 0), ("deed", "", 0), ("deed", "Aa", 0), ("deed", None, 0),
    ("deed", 0, 0), ("deed", ("aa",), 0), ("deed", ["aa"], 0), ("deed", {"aa": 0}, 0), ("deed", "aa", 0, 0), ("deeds", "aa", 0),
    (("deed", "aa", 0), 0), ("does", ("does", ("does", 0))), {"deed": ("aa", 0)}, {"does": 0}, (0,) * 30, ("deed", 0, "aa"),
    ("over", 0), ("over", "aa", 0))


def deep(value, many):
    for _ in range(many):
        value = [value] if isinstance(value, tuple) else (value,)
    return value


class Moves(unittest.TestCase):
    def test_ascending(self):
        program = made(*PROGRAM)
        stand = behind(program, deed("zip", 1), deed("zip", 2), deed("zip", 0), deed("aa"), does(2), does(1))
        self.assertEqual(stand[3], (
            ("save", 1, "out", 0, "live", ()), ("save", 2, "answered", 2, "live", ()), ("save", 0, "answered", 0, "live", ()),
            ("save", 0, "out", 0, "live", ()), ("load", 0, "held", 0, "live", ())))
        # Five tasks are there; stop 1 lets two of them go.
        self.assertEqual(moves(program, stand, 4), (comes(1), comes(2), deed("stop", 1), does(0), does(3), sends(4)))
        self.assertEqual(moves(program, stand, 3), (comes(1), comes(2), deed("stop", 1), does(0), does(3), sends(4)))
        self.assertEqual(moves(program, stand, 2), (comes(1), comes(2), does(0), does(3), sends(4)))
        stand = behind(program, deed("stop", 1), stand=stand)
        self.assertEqual(moves(program, stand, 1), (does(0), does(1), gone(0), gone(1), sends(2)))

    def test_for_one_to_four_asks(self):
        program = made(*PROGRAM)
        stop = tuple(deed("stop", it) for it in range(4))
        zips = tuple(deed("zip", it) for it in range(3))
        first = first_stand(program)
        self.assertEqual(moves(program, first, 1), stop + zips)
        for many in (2, 3, 4):
            self.assertEqual(moves(program, first, many), (deed("aa"),) + stop + zips)
        two = behind(program, deed("zip"), deed("zip"))
        self.assertEqual(moves(program, two, 1), (does(0), does(1)))
        self.assertEqual(moves(program, two, 2), stop + (does(0), does(1)))
        self.assertEqual(moves(program, two, 3), stop + zips + (does(0), does(1)))
        self.assertEqual(moves(program, two, 4), (deed("aa"),) + stop + zips + (does(0), does(1)))

    def test_ten_and_more_places(self):
        # Numbers are put in sequence as numbers.
        program = made(*PROGRAM)
        stand = behind(program, *[deed("zip")] * 12)
        self.assertEqual(moves(program, stand, 4), tuple(does(n) for n in range(12)))

    def test_deeds_with_and_without_upto(self):
        for upto, wanted in (("", 1), (" upto 1", 2), (" upto 2", 3), (" upto 3", 4)):
            program = made(*PROGRAM[:11], f"  deed zip{upto}", "    set c it")
            self.assertEqual(moves(program, first_stand(program), 1), tuple(deed("zip", it) for it in range(wanted)))

    def test_a_rest_where_no_deed_fits(self):
        program = made(*PROGRAM[:11], "  deed two", "    ask save 0", "    ask save 1")
        self.assertEqual(moves(program, first_stand(program), 1), ())
        self.assertEqual(moves(program, first_stand(program), 2), (deed("two"),))

    def test_bad_many(self):
        program = made(*PROGRAM)
        for many in (0, 5, -1, 100, True, False, None, "2", "", (), (2,), [], [2], {}, {2: 2}):
            for stand in (first_stand(program), behind(program, deed("aa"))):
                with self.assertRaises(BadMany) as caught:
                    moves(program, stand, many)
                self.assertIs(caught.exception.value, many)

    def test_bools_are_no_numbers_in_moves(self):
        program = made(*PROGRAM)
        stand = behind(program, deed("zip"), deed("aa"))
        for move in moves(program, stand, 4):
            self.assertIs(type(move), tuple)
            for part in move[1:]:
                self.assertIn(type(part), (int, str))


class After(unittest.TestCase):
    def test_with_as_many_tasks_as_it_needs(self):
        program = made(*PROGRAM)
        stand = first_stand(program)
        for many in range(1, 12):
            stand = after(program, stand, deed("zip", 1))
            self.assertEqual(stand[3], (("save", 1, "out", 0, "live", ()),) * many)
            self.assertTrue(is_stand(program, stand))

    def test_no_move(self):
        program = made(*PROGRAM)
        stands = [first_stand(program), behind(program, deed("aa"), deed("zip", 1), does(1)),
                  behind(program, deed("aa"), deed("zip", 2), deed("stop", 1))]
        for stand in stands:
            for value in STRANGE + (deep(("does", 0), 28), deep(0, 30)):
                with self.assertRaises(NoMove) as caught:
                    after(program, stand, value)
                self.assertIs(caught.exception.value, value)

    def test_what_a_task_cannot_do(self):
        program = made(*PROGRAM[:10], "  send load queued", "  deed go upto 3", "    ask save it", "  deed load",
                       "    ask load 0", "  deed stop", "    off save")
        stand = behind(program, deed("go", 1), deed("go", 2), deed("stop"), deed("go", 1), deed("go", 3), deed("go", 0),
                       deed("load"), deed("load"), deed("load"), does(2), does(3))
        self.assertEqual([task[2:5:2] for task in stand[3]], [
            ("out", "off"), ("out", "off"), ("answered", "live"), ("refused", "live"), ("out", "live"), ("out", "live"),
            ("held", "live"), ("held", "live")])
        can = {does(0), does(1), gone(0), gone(1), comes(2), comes(3), does(4), does(5)}
        for word in ("sends", "does", "comes", "gone"):
            for n in range(9):
                move = (word, n)
                self.assertEqual(move in moves(program, stand, 4), move in can, move)
                if move in can:
                    after(program, stand, move)
                else:
                    with self.assertRaises(NoMove) as caught:
                        after(program, stand, move)
                    self.assertIs(caught.exception.value, move)
        stand = behind(program, does(5), comes(5), stand=stand)
        for move, holds in ((sends(5), True), (sends(6), False)):
            self.assertEqual(move in moves(program, stand, 4), holds)

    def test_at_a_rest(self):
        program = made(*PROGRAM)
        for word in ("sends", "does", "comes", "gone"):
            with self.assertRaises(NoMove):
                after(program, first_stand(program), (word, 0))

    def test_nothing_that_is_handed_in_changes(self):
        program = made(*PROGRAM)
        stand = behind(program, deed("aa"), deed("zip", 1), does(1))
        told, held = repr(stand), repr([program.text, program.asks, program.cells, program.deeds])
        value = ["does", [0, {"n": (0,)}]]
        with self.assertRaises(NoMove) as caught:
            after(program, stand, value)
        self.assertEqual(value, ["does", [0, {"n": (0,)}]])
        self.assertEqual(caught.exception.value, value)
        for move in moves(program, stand, 4):
            one = after(program, stand, move)
            self.assertEqual(repr(after(program, stand, move)), repr(one))
            self.assertEqual(repr(stand), told)
        self.assertEqual(repr([program.text, program.asks, program.cells, program.deeds]), held)

    def test_another_program_of_the_same_text(self):
        one, two = made(*PROGRAM), made(*PROGRAM)
        stand = behind(one, deed("aa"), deed("zip", 1))
        for move in moves(one, stand, 4):
            self.assertEqual(after(one, stand, move), after(two, stand, move))


class Drawn(unittest.TestCase):
    def test_more_asks_bar_less(self):
        for seed in range(120):
            draw = random.Random(seed)
            program = Program(drawn_text(draw))
            stand = first_stand(program)
            for _ in range(15):
                by_many = [moves(program, stand, many) for many in (1, 2, 3, 4)]
                for less, more in zip(by_many, by_many[1:]):
                    self.assertLessEqual(set(less), set(more))
                    # Only deeds are barred.
                    self.assertEqual([move for move in less if move[0] != "deed"], [move for move in more if move[0] != "deed"])
                for many, found in zip((1, 2, 3, 4), by_many):
                    self.assertEqual(list(found), sorted(set(found)))
                    deeds = [deed(name, it) for name, upto in program.deeds for it in range(upto + 1)]
                    self.assertEqual([move for move in found if move[0] == "deed"], sorted(
                        move for move in deeds if len(after(program, stand, move)[3]) <= many))
                if not by_many[3]:
                    break
                stand = after(program, stand, draw.choice(by_many[3]))

    def test_what_is_not_told_is_not_possible(self):
        for seed in range(60):
            draw = random.Random(seed)
            program = Program(drawn_text(draw))
            stand = first_stand(program)
            for _ in range(10):
                found = moves(program, stand, 4)
                for word in ("sends", "does", "comes", "gone"):
                    for n in range(len(stand[3]) + 1):
                        if (word, n) not in found:
                            with self.assertRaises(NoMove):
                                after(program, stand, (word, n))
                if not found:
                    break
                stand = after(program, stand, draw.choice(found))


if __name__ == "__main__":
    unittest.main()
