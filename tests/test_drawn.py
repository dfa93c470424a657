"""Drawn programs led through drawn moves beside a plain second reading of section 6, and guarantee (f)."""

import random
import unittest

from lastasked.moves import after, moves
from lastasked.programs import Program
from lastasked.stands import first_stand, is_stand, shown
from tests.helper import Second, drawn_text
from tests.test_stands import changed


def led(seed, many, steps, per_deed=1):
    """(program, stand, move, stand behind it) of a drawn walk; deeds are drawn once in per_deed times if others are there."""
    draw = random.Random(seed)
    program = Program(drawn_text(draw))
    stand = first_stand(program)
    for _ in range(steps):
        found = moves(program, stand, many)
        others = [move for move in found if move[0] != "deed"]
        if others and draw.randrange(per_deed + 1) > 0:
            found = others
        if not found:
            return
        move = draw.choice(found)
        behind = after(program, stand, move)
        yield program, stand, move, behind
        stand = behind


class Walks(unittest.TestCase):
    def test_second_reading(self):
        words = {}
        for seed in range(900):
            many = seed % 4 + 1
            second = None
            for program, stand, move, behind in led(seed, many, 25, seed % 3):
                if second is None:
                    second = Second(program.text)
                    self.assertEqual(repr(stand), repr(second.stand()))
                self.assertEqual(moves(program, stand, many), second.moves(many), program.text)
                second.do(move)
                self.assertEqual(repr(behind), repr(second.stand()), (program.text, stand, move))
                self.assertEqual(repr(shown(program, behind)), repr(second.shown(program.text)))
                words[move[0]] = words.get(move[0], 0) + 1
        for word in ("deed", "sends", "does", "comes", "gone"):
            self.assertGreater(words[word], 200)

    def test_from_each_stand(self):
        # The second reading begun at the stand tells the same: all that counts is in the stand.
        for seed in range(900, 1200):
            for program, stand, move, behind in led(seed, 3, 20):
                second = Second(program.text, stand)
                self.assertEqual(repr(second.stand()), repr(stand))
                self.assertEqual(moves(program, stand, 3), second.moves(3))
                second.do(move)
                self.assertEqual(repr(behind), repr(second.stand()), (program.text, stand, move))

    def test_from_stands_to_which_no_moves_lead(self):
        many = 0
        for seed in range(60):
            draw = random.Random(seed)
            for step, (program, stand, _, _) in enumerate(led(seed, 4, 20)):
                if step % 7 != 6:
                    continue
                others = [value for value in changed(stand) if is_stand(program, value)]
                for value in draw.sample(others, min(15, len(others))):
                    self.assertEqual(repr(shown(program, value)), repr(Second(program.text, value).shown(program.text)))
                    found = moves(program, value, 4)
                    self.assertEqual(found, Second(program.text, value).moves(4), (program.text, value))
                    for move in found:
                        second = Second(program.text, value)
                        second.do(move)
                        self.assertEqual(repr(after(program, value, move)), repr(second.stand()), (program.text, value, move))
                        many += 1
        self.assertGreater(many, 1000)

    def test_all_that_come_are_stands(self):
        for seed in range(1200, 1400):
            for program, _, _, behind in led(seed, 4, 30):
                self.assertIs(is_stand(program, behind), True)

    def test_equal_calls(self):
        for seed in range(1400, 1460):
            for program, stand, move, behind in led(seed, 3, 12):
                self.assertEqual(repr(after(program, stand, move)), repr(behind))
                self.assertEqual(repr(after(Program(program.text), stand, move)), repr(behind))


class NothingIsStuck(unittest.TestCase):
    def test_some_move_that_is_no_deed(self):
        for seed in range(1500, 1800):
            for program, _, _, behind in led(seed, 4, 25):
                if behind[3]:
                    for many in (1, 4):
                        self.assertTrue([move for move in moves(program, behind, many) if move[0] != "deed"])

    def test_without_deeds_all_comes_to_a_rest(self):
        for seed in range(1800, 2100):
            draw = random.Random(seed)
            last = None
            for program, _, _, behind in led(seed, 4, 12):
                last = program, behind
            if last is None:
                continue
            program, stand = last
            # A handler asks once at most, and only below its own ask: with both the stored answer may ask once more.
            # So at most three tasks come of one, and each of them has three moves at most.
            for _ in range(len(stand[3]) * 4 * 3 + 1):
                found = [move for move in moves(program, stand, 1) if move[0] != "deed"]
                if not found:
                    break
                stand = after(program, stand, draw.choice(found))
            self.assertEqual(stand[3], ())

    def test_what_can_be_done_for_some_number_can_be_for_each_greater_one(self):
        for seed in range(2100, 2200):
            for program, stand, move, _ in led(seed, 2, 15):
                for many in (2, 3, 4):
                    self.assertIn(move, moves(program, stand, many))


if __name__ == "__main__":
    unittest.main()
