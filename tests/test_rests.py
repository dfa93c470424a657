"""Section 8: rests, their tables and their stories."""

import random
import unittest
from unittest import mock

from lastasked.errors import BadDeeds, BadMany, TooMany
from lastasked.rests import rests, shows_rests
from lastasked.stands import first_stand
from tests.helper import comes, deed, does, made
from tests.searches import FIND, drawn_deeds, is_wrong_rest, lean_programs, pairs_of, second_rests

# Wrong only if three answers come in the sequence 2, 1, 0.
THREE = made(
    "worths 4", "house", "  ask find", "    answer it", "screen", "  cell k 0", "  cell s 0", "  cell x 0", "  show x",
    "  deed go", "    if k = 3", "      set k 3", "    else", "      ask find k", "      add k 1",
    "  answer find", "    if it = 2", "      if s = 0", "        set s 1", "    if it = 1", "      if s = 1", "        set s 2",
    "    if it = 0", "      if s = 2", "        set x 1")
# What is shown is never wrong, but the house is.
HOUSE = made("worths 2", "house", "  cell n 0", "  ask put", "    set n it", "screen", "  cell v 0", "  show v", "  deed flip upto 1",
             "    ask put it")


class Told(unittest.TestCase):
    def told(self, program, many, *, houses=False, deeds=None):
        """What rests tells, laid beside the plain search."""
        found = rests(program, many, houses=houses, deeds=deeds)
        wanted = second_rests(program, many, houses, deeds)
        self.assertEqual(found[0], wanted[0], program.text)
        if found[0] == "right":
            self.assertEqual(repr(found), repr(("right", tuple(sorted(wanted[1])))))
        else:
            self.assertEqual([type(found), len(found), type(found[1]), len(found[1])], [tuple, 2, tuple, wanted[1]])
            self.assertTrue(is_wrong_rest(program, found[1], many, houses))
        self.assertIs(shows_rests(program, many, found, houses=houses, deeds=deeds), True)
        return found


class Rests(Told):
    def test_a_table(self):
        program = made("worths 2", "house", "  ask find", "    answer it", "screen", "  cell x 0", "  show x", "  deed type", "    ask find 1",
                       "  answer find", "    set x it")
        def out(phase, answer=0):
            return (("find", 1, phase, answer, "live", ()),)
        self.assertEqual(repr(self.told(program, 1)), repr(("right", (
            (((), (0,), (), ()), ((), (0,))), (((), (0,), (), out("answered", 1)), ((), (1,))), (((), (0,), (), out("out")), ((), (1,))),
            (((), (1,), (), ()), ((), (1,))), (((), (1,), (), out("answered", 1)), ((), (1,))), (((), (1,), (), out("out")), ((), (1,)))))))

    def test_find(self):
        self.assertEqual(self.told(made(*FIND), 1)[0], "right")
        for many in (2, 3, 4):
            self.assertEqual(len(self.told(made(*FIND), many)[1]), 6)

    def test_three_asks(self):
        for many in (1, 2):
            self.assertEqual(self.told(THREE, many)[0], "right")
        for many in (3, 4):
            self.assertEqual(len(self.told(THREE, many)[1]), 9)

    def test_houses(self):
        for many in (1, 2):
            self.assertEqual(self.told(HOUSE, many)[0], "right")
        self.assertEqual(self.told(HOUSE, 1, houses=True)[0], "right")
        for many in (2, 3, 4):
            self.assertEqual(len(self.told(HOUSE, many, houses=True)[1]), 6)

    def test_houses_asks_for_what_is_shown_too(self):
        self.assertEqual(len(self.told(made(*FIND), 2, houses=True)[1]), 6)

    def test_none_is_like_none_alone(self):
        rows = ["worths 2", "house", "  ask find", "    answer it", "screen", "  cell x 0", "  cell y 0", "  cell z 0", "  show x",
                "  unsure y = 1"]
        # Both are unsure at the end, whatever x is.
        program = made(*rows, "  deed go", "    set y 1", "    ask find 1", "    add z 1", "  answer find", "    set x z")
        self.assertEqual(self.told(program, 2)[0], "right")
        # The plain meaning alone is.
        program = made(*rows, "  deed go", "    if z = 0", "      ask find 0", "      ask find 1", "    set z 1", "  answer find", "    set y it")
        found = self.told(program, 2)
        self.assertEqual(len(found[1]), 5)
        # The screen alone is.
        program = made(*rows, "  deed go", "    if z = 0", "      ask find 1", "      ask find 0", "    set z 1", "  answer find", "    set y it")
        self.assertEqual(len(self.told(program, 2)[1]), 5)

    def test_each_rest_alone(self):
        # What is shown amiss while a task is there is none.
        program = made(*FIND[:7], "  send find one", "  deed type", "    ask find 1", *FIND[-2:])
        self.assertEqual(self.told(program, 4)[0], "right")

    def test_a_guess_that_was_refused(self):
        rows = ["worths 3", "house", "  ask save", "    if it = 2", "      refuse", "screen", "  cell c 0", "  show c"]
        deeds = ["  deed pick upto 2", "    ask save it guess c = it"]
        self.assertEqual(self.told(made(*rows, *deeds), 1)[0], "right")
        self.assertEqual(len(self.told(made(*rows, *deeds), 2)[1]), 6)
        self.assertEqual(self.told(made(*rows, "  back c redone", *deeds), 2)[0], "right")

    def test_drawn(self):
        words = {}
        for seed, program in lean_programs(range(90)):
            for many in (1, 2):
                if len(pairs_of(program, many, 150)) <= 150:
                    for houses in (False, True):
                        found = self.told(program, many, houses=houses)
                        words[found[0], houses] = words.get((found[0], houses), 0) + 1
        self.assertGreater(min(words.values()), 20)

    def test_drawn_with_deeds(self):
        words = {}
        for seed, program in lean_programs(range(150, 300)):
            draw = random.Random(seed)
            for many in (1, 3):
                found = self.told(program, many, houses=seed % 2 == 0, deeds=drawn_deeds(draw, program, 3))
                words[found[0]] = words.get(found[0], 0) + 1
        self.assertGreater(words["right"], 100)
        self.assertGreater(words["wrong"], 10)

    def test_equal_calls(self):
        for program in (made(*FIND), THREE, HOUSE):
            self.assertEqual(repr(rests(program, 2)), repr(rests(made(*program.text.split("\n")), 2)))

    def test_by_name(self):
        found = rests(program=HOUSE, many=2, houses=True, deeds=None)
        self.assertEqual(found, rests(HOUSE, 2, houses=True))
        self.assertIs(shows_rests(program=HOUSE, many=2, value=found, houses=True, deeds=None), True)
        with self.assertRaises(TypeError):
            rests(HOUSE, 2, True)
        with self.assertRaises(TypeError):
            rests(HOUSE, 2, False, None)


class Deeds(Told):
    """Stories that are led by deeds."""

    def test_none_of_them(self):
        first = (first_stand(HOUSE), ((0,), (0,)), 0)
        self.assertEqual(repr(self.told(HOUSE, 2, deeds=())), repr(("right", (first,))))

    def test_members_tell_how_many_are_done(self):
        found = self.told(HOUSE, 2, deeds=(deed("flip", 1), deed("flip", 1)))[1]
        # Ahead of all; one is out, done, gone; then two likewise, in either sequence.
        self.assertEqual([len([member for member in found if member[2] == n]) for n in (0, 1, 2)], [1, 3, 7])

    def test_the_first_so_many_in_their_sequence(self):
        find = made(*FIND)
        story = self.told(find, 2, deeds=(deed("type", 1), deed("type", 2), deed("type", 1)))[1]
        self.assertEqual([move for move in story if move[0] == "deed"], [deed("type", 1), deed("type", 2)])
        self.assertEqual(self.told(find, 2, deeds=(deed("type", 1), deed("type", 1)))[0], "right")
        self.assertEqual(self.told(find, 1, deeds=(deed("type", 1), deed("type", 2)))[0], "right")
        self.assertEqual(self.told(find, 2, deeds=(deed("type", 2), deed("type", 2), deed("type", 1)))[0], "wrong")

    def test_one_that_many_bars_bars_those_behind_it(self):
        program = made(*FIND[:9], "  deed tap", "    add x 0", *FIND[9:])
        found = self.told(program, 1, deeds=(deed("type", 1), deed("type", 1), deed("tap")))
        self.assertEqual(found[0], "right")
        for stand, _, done in found[1]:
            self.assertLessEqual(len(stand[3]), 1)
        self.assertIn((((), (1,), (), ()), ((), (1,)), 3), found[1])

    def test_eight(self):
        eight = tuple(deed("type", n % 3) for n in range(8))
        self.assertEqual(self.told(made(*FIND), 2, deeds=eight)[0], "wrong")
        found = self.told(made(*FIND), 1, deeds=eight)
        self.assertEqual(sorted({member[2] for member in found[1]}), list(range(9)))

    def test_no_deeds(self):
        nine = (deed("type"),) * 9
        for call in (lambda value: rests(made(*FIND), 2, deeds=value), lambda value: shows_rests(made(*FIND), 2, None, deeds=value)):
            for value in (nine, nine + (0,), [], [deed("type")], "", 0, True, False, {}, {"deed": 0}, deed("type"), (("deed", "type"),),
                          (deed("type"), None), (deed("type", 3),), (deed("type", -1),), (deed("type", True),), (["deed", "type", 0],),
                          (deed("find"),), (("does", 0),), (("Deed", "type", 0),), (deed("type") + (0,),), ((),), ("deed",), ("type",)):
                with self.assertRaises(BadDeeds) as caught:
                    call(value)
                self.assertIs(caught.exception.value, value)
            call(nine[:8])


class Errors(unittest.TestCase):
    def test_many(self):
        for value in (0, 5, -1, 10 ** 17, True, False, None, "2", (2,), [2], {2: 2}):
            for call in (lambda: rests(HOUSE, value), lambda: rests(HOUSE, value, houses=True, deeds=None),
                         lambda: rests(HOUSE, value, deeds=0), lambda: shows_rests(HOUSE, value, None), lambda: shows_rests(HOUSE, value, 0, deeds=0)):
                with self.assertRaises(BadMany) as caught:
                    call()
                self.assertIs(caught.exception.value, value)


# 4 cells and the house are counters: the members are many, and nothing is ever wrong.
WIDE = ("worths 4", "house", "  cell n 0", "  ask find", "    answer 0", "screen", "  cell a 0", "  cell b 0", "  cell c 0", "  cell d 0")
WIDE_DEEDS = ("  deed one upto 3", "    add a it", "    ask find it", "  deed two upto 3", "    add b it", "    ask find 0",
              "  deed three upto 3", "    add c it", "    add d c")


class TooManyMembers(unittest.TestCase):
    def fails(self, program, many, **more):
        with self.assertRaises(TooMany) as caught:
            rests(program, many, **more)
        self.assertEqual(repr(caught.exception.number), "6000")

    def test_more_than_6000(self):
        program = made(*WIDE, "  show a", *WIDE_DEEDS)
        self.fails(program, 2)
        self.fails(program, 2, houses=True)
        # With one task at most 256 * 9 members come.
        self.assertEqual(len(rests(program, 1)[1]), 256 * 9)

    def test_a_wrong_rest_behind_6000_members(self):
        # The look needs more moves than bring 6000 members: c is 3 first, then d; then the elder answer is wrong.
        wrong = WIDE_DEEDS[:6] + ("  deed three", "    add c 1", "    if c = 0", "      add d 1", "      if d = 0", "        set a 1")
        self.fails(made(*WIDE, "  show a", *wrong), 2)

    def test_a_wrong_rest_ahead_of_them(self):
        program = made(*WIDE, "  show a", *WIDE_DEEDS, "  answer find", "    if asked = 1", "      set b a", "    else", "      set a b")
        found = rests(program, 2)
        self.assertEqual(found[0], "wrong")
        self.assertTrue(is_wrong_rest(program, found[1], 2))

    def test_just_so_many(self):
        # With another number in the place of 6000, for each that makes a difference.
        for seed, program in lean_programs(range(90, 110)):
            for most in (1, 3, 4, 7, 12, 20, 33, 54):
                wanted = second_rests(program, 2, most=most)
                with mock.patch("lastasked.tables.MOST_MEMBERS", most):
                    if wanted == ("many",):
                        with self.assertRaises(TooMany) as caught:
                            rests(program, 2)
                        self.assertEqual(caught.exception.number, most)
                    else:
                        self.assertEqual(rests(program, 2)[0], wanted[0])

    def test_shows_raises_none(self):
        program = made(*WIDE, "  show a", *WIDE_DEEDS)
        self.assertIs(shows_rests(program, 4, ("right", ())), False)
        self.assertIs(shows_rests(program, 4, ("wrong", (deed("one", 1), does(0), comes(0)))), False)
        table = rests(program, 1)
        self.assertIs(shows_rests(program, 1, table), True)
        self.assertIs(shows_rests(program, 2, table), False)


if __name__ == "__main__":
    unittest.main()
