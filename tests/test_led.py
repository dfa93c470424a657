"""Section 7: stories, and what they lead to."""

import random
import unittest

from lastasked.errors import BadMany, BadStory
from lastasked.led import led
from lastasked.moves import after, moves
from lastasked.plain import plain_after, plain_first
from lastasked.stands import first_stand
from tests.helper import comes, deed, does, made, sends
from tests.searches import FIND, drawn_program
from tests.test_stands import ANY

PROGRAM = made("worths 4", "house", "  cell n 0", "  ask save", "    set n it", "    answer n", "screen", "  cell c 0", "  show c",
               "  send save latest", "  back c redone", "  deed pick upto 3", "    ask save it guess c = it", "  deed drop", "    off save")


class Led(unittest.TestCase):
    def fails(self, number, program, many, story):
        with self.assertRaises(BadStory) as caught:
            led(program, many, story)
        self.assertEqual(repr(caught.exception.number), repr(number))

    def test_no_move(self):
        self.assertEqual(repr(led(PROGRAM, 1, ())), repr((first_stand(PROGRAM), plain_first(PROGRAM))))

    def test_step_by_step(self):
        longest = 0
        for seed in range(250):
            draw = random.Random(seed)
            program, many = drawn_program(seed), seed % 4 + 1
            stand, plain, story = first_stand(program), plain_first(program), ()
            for _ in range(20):
                found = moves(program, stand, many)
                if not found:
                    break
                move = draw.choice(found)
                stand, story = after(program, stand, move), story + (move,)
                if move[0] == "deed":
                    plain, _ = plain_after(program, plain, move[1], move[2])
                self.assertEqual(repr(led(program, many, story)), repr((stand, plain)), (program.text, story))
            longest = max(longest, len(story))
            # The first move that is not possible is told, whatever stands behind it.
            for bad in (comes(len(stand[3])), sends(99), ("deed", "no", 0), None):
                self.fails(len(story) + 1, program, many, story + (bad, bad, ("deed",)))
        self.assertEqual(longest, 20)

    def test_what_many_bars(self):
        find = made(*FIND)
        story = (deed("type", 1), deed("type", 2), deed("type", 0), does(0), does(1))
        for many in (1, 2):
            self.fails(many + 1, find, many, story)
        for many in (3, 4):
            self.assertEqual(len(led(find, many, story)[0][3]), 3)
        # A move that is no deed is never barred, nor is a deed that makes no task.
        swap = made(*FIND[:7], "  send find one", *FIND[7:])
        self.assertEqual(len(led(swap, 1, story[:4])[0][3]), 1)

    def test_a_held_one_is_displaced(self):
        story = (deed("pick", 1), deed("pick", 2), deed("pick", 3), does(0), comes(0), sends(0), does(0), comes(0))
        self.assertEqual(repr(led(PROGRAM, 2, story)), repr((((3,), ((3, ()),), (), ()), ((3,), (3,)))))
        self.fails(2, PROGRAM, 1, story)

    def test_off_ones_count(self):
        story = (deed("pick", 1), deed("drop"), deed("pick", 2))
        self.fails(3, PROGRAM, 1, story)
        self.assertEqual(led(PROGRAM, 2, story)[0][3], (("save", 1, "out", 0, "off", ()), ("save", 2, "out", 0, "live", ())))

    def test_no_tuple(self):
        for value in ([], [deed("pick", 1)], "", "deed pick 1", {}, {deed("drop"): 1}, None, 0, 1, True, False):
            self.fails(0, PROGRAM, 2, value)

    def test_no_moves_within(self):
        lead = (deed("pick", 1), deed("drop"))
        for value in ANY + (list(deed("drop")), ("deed", "drop"), ("deed", "drop", False), ("deed", "drop", 1), ("deed", "pick", 4),
                            ("deed", "pick", -1), ("deed", "pick", True), ("deed", "save", 0), ("Deed", "drop", 0), deed("drop") + (0,),
                            ("over",), ("does", 1), ("does", -1), ("does", False), ("does", "0"), ("does", None), ("comes", 0), ("sends", 0),
                            ("undo",), ("does",), ("does", 0, 0), ["does", 0], (("does", 0),), "does 0", {"does": 0}):
            self.fails(3, PROGRAM, 2, lead + (value, does(0)))
            self.fails(1, PROGRAM, 2, (value,))

    def test_the_first_of_several(self):
        self.fails(1, PROGRAM, 2, (None, [], 3))
        self.fails(2, PROGRAM, 2, (deed("drop"), does(0), None))

    def test_many(self):
        for value in (0, 5, -1, 10 ** 17, True, False, None, "1", (1,), [1], {1: 1}):
            for story in ((), None, (None,)):
                with self.assertRaises(BadMany) as caught:
                    led(PROGRAM, value, story)
                self.assertIs(caught.exception.value, value)

    def test_by_name(self):
        self.assertEqual(led(program=PROGRAM, many=1, story=()), led(PROGRAM, 1, ()))

    def test_what_is_handed_in_stays(self):
        story = (deed("pick", 1), [0])
        self.fails(2, PROGRAM, 2, story)
        self.assertEqual(story, (deed("pick", 1), [0]))


if __name__ == "__main__":
    unittest.main()
