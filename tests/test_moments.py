"""Section 8: moments, their tables and their stories."""

import random
import unittest
from unittest import mock

from lastasked.errors import BadDeeds, BadMany, TooMany
from lastasked.moments import moments, shows_moments
from tests.helper import comes, deed, does, made
from tests.searches import FIND, drawn_deeds, lean_programs, pairs_of, second_led, second_moments, steps_from, word_at_end
from tests.test_rests import WIDE, WIDE_DEEDS

FIRST = ((), (0,), (), ())
LAST = FIND[:7] + ("  take find last",) + FIND[7:]
RISING = FIND[:7] + ("  take find rising",) + FIND[7:]
PAIR = ("worths 2", "house", "  ask left", "    answer 1", "  ask right", "    answer 1", "screen", "  cell l 0", "  cell r 0", "  show l r")


class Told(unittest.TestCase):
    def told(self, program, many, deeds=None):
        """What moments tells, laid beside the plain search."""
        found = moments(program, many, deeds=deeds)
        wanted = second_moments(program, many, deeds)
        self.assertEqual(found[0], wanted[0], program.text)
        if found[0] == "right":
            self.assertEqual(repr(found), repr(("right", tuple(sorted(wanted[1])))))
        else:
            self.assertEqual([type(found), len(found), type(found[1]), len(found[1])], [tuple, 3, tuple, wanted[1]])
            self.assertIn(found[2], wanted[2])
            self.assertEqual(found[2], word_at_end(program, found[1], many))
        self.assertIs(shows_moments(program, many, found, deeds=deeds), True)
        return found


class WasAndSince(Told):
    """Was and since of every picture, by whole tables of stories that are led by deeds."""

    def members(self, program, deeds, many=2):
        """{(stand, plain stand, deeds done): {picture: (was, since)}}."""
        table = self.told(program, many, deeds)
        self.assertEqual(table[0], "right")
        found = {}
        for stand, plain, picture, was, since, done in table[1]:
            found.setdefault((stand, plain, done), {}).setdefault(picture, []).append((was, since))
        return found

    def test_at_first(self):
        program = made("worths 3", "house", "  ask find", "screen", "  cell x 2", "  cell y 1", "  show y x", "  deed go", "    anew")
        found = self.members(program, ())
        self.assertEqual(list(found), [(((), (2, 1), (), ()), ((), (2, 1)), 0)])
        for picture, rows in list(found.values())[0].items():
            self.assertEqual(rows, [(picture == (1, 2),) * 2])
        self.assertEqual(len(list(found.values())[0]), 9)

    def test_at_first_unsure(self):
        program = made("worths 2", "house", "  ask find", "screen", "  cell x 1", "  show x", "  unsure x = 1", "  deed go", "    anew")
        self.assertEqual(list(self.members(program, ()).values()), [{(0,): [(False, False)], (1,): [(False, False)]}])

    def test_behind_each_move(self):
        found = self.members(made(*FIND), (deed("type", 1),), 1)
        def task(phase, answer=0):
            return ((), (0,), (), (("find", 1, phase, answer, "live", ()),))
        elder = {(0,): [(True, True)], (1,): [(True, True)], (2,): [(False, False)]}
        self.assertEqual(found, {
            (FIRST, ((), (0,)), 0): {(0,): [(True, True)], (1,): [(False, False)], (2,): [(False, False)]},
            (task("out"), ((), (1,)), 1): elder, (task("answered", 1), ((), (1,)), 1): elder,
            # As it is up to date, only what is shown was so since.
            (((), (1,), (), ()), ((), (1,)), 1): {(0,): [(True, False)], (1,): [(True, True)], (2,): [(False, False)]}})

    def test_behind_sends_and_gone(self):
        # Neither is a deed: what is known stays, unless the screen is up to date.
        program = made(*FIND[:7], "  send find latest", *FIND[7:9], "  deed drop", "    off find", *FIND[9:])
        deeds = (deed("type", 1), deed("type", 2), deed("drop"))
        found = self.members(program, deeds)
        words = {}
        for (stand, plain, done), rows in found.items():
            for move, behind, later, _, more in steps_from(program, 2, stand, plain, deeds, done):
                if move[0] in ("sends", "gone"):
                    up = stand[1] == plain[1]
                    for picture, (was, since) in [(picture, known) for picture in rows for known in rows[picture]]:
                        then = was, picture == stand[1] if up else since
                        self.assertIn(then, found[behind, later, more][picture])
                    words[move[0], up] = words.get((move[0], up), 0) + 1
        self.assertGreaterEqual(set(words), {("sends", False), ("gone", False)})

    def test_of_a_way(self):
        # The plain meaning shows 1, 2 and 3 behind one deed, and 0 ahead of it.
        program = made("worths 4", "house", "  ask find", "    answer it", "screen", "  cell x 0", "  show x", "  deed go", "    ask find 1 guess x = 1",
                       "    ask find 2", "  answer find", "    add x 1")
        found = self.members(program, (deed("go"),))
        behind = [rows for (stand, _, done), rows in found.items() if done == 1 and len(stand[3]) == 2]
        for rows in behind:
            self.assertEqual(rows, {(0,): [(True, True)], (1,): [(True, True)], (2,): [(True, True)], (3,): [(True, True)]})
        rests = [rows for (stand, _, done), rows in found.items() if done == 1 and stand[3] == ()]
        self.assertEqual(rests, [{(0,): [(True, False)], (1,): [(True, False)], (2,): [(True, False)], (3,): [(True, True)]}])

    def test_none_on_a_way_and_both_unsure(self):
        program = made("worths 2", "house", "  ask find", "    answer it", "screen", "  cell x 0", "  cell y 0", "  show x", "  unsure y = 1",
                       "  deed hide", "    set y 1", "  deed turn", "    add x 1")
        found = self.members(program, (deed("hide"), deed("turn"), deed("hide")))
        # While both are unsure nothing is up to date: what was so since stays so.
        for (stand, _, done), rows in found.items():
            self.assertEqual(rows, {(0,): [(True, True)], (1,): [(False, False)]})
        program = made(*program.text.replace("    set y 1", "    add y 1").split("\n"))
        found = self.members(program, (deed("hide"), deed("turn"), deed("hide")))
        self.assertEqual([rows for (_, _, done), rows in found.items() if done == 3], [{(0,): [(True, False)], (1,): [(True, True)]}])

    def test_the_screen_alone_is_unsure(self):
        program = made("worths 2", "house", "  ask find", "screen", "  cell x 0", "  cell y 0", "  show x", "  unsure y = 1", "  deed go",
                       "    set y 1", "    ask find 0", "  answer find", "    set y 0", "    set x 1")
        found = self.members(program, (deed("go"), deed("go")), 1)
        for (stand, _, done), rows in found.items():
            if stand[1][1] == 1 and done == 1:
                # The way was None, then 1.
                self.assertEqual(rows, {(0,): [(True, True)], (1,): [(True, True)]})
            if stand[1][1] == 1 and done == 2:
                self.assertEqual(rows, {(0,): [(True, False)], (1,): [(True, True)]})


class Moments(Told):
    def test_rising(self):
        self.assertEqual(self.told(made(*RISING), 1)[0], "right")
        for many in (2, 3, 4):
            self.assertEqual(len(self.told(made(*RISING), many)[1]), 4)
            self.assertEqual(self.told(made(*RISING), many)[2], "elder")

    def test_last(self):
        for many in (1, 2, 3):
            self.assertEqual(self.told(made(*LAST), many)[0], "right")

    def test_late_pictures_are_let(self):
        # Answers come one by one, in the sequence of the asks, far behind the plain meaning.
        queued = made("worths 4", "house", "  ask find", "    answer it", "screen", "  cell x 0", "  cell k 0", "  show x", "  send find queued",
                      "  deed go", "    if k = 3", "      set k 3", "    else", "      add k 1", "      ask find k", "  answer find", "    set x it")
        for many in (1, 2, 3):
            self.assertEqual(self.told(queued, many)[0], "right")
        # Of FIND each is so by chance when 0 is typed again; then it falls back.
        queued = made(*FIND[:7], "  send find queued", *FIND[7:])
        self.assertEqual([len(self.told(queued, 2)[1]), self.told(queued, 2)[2]], [4, "elder"])

    def test_a_fall_among_pictures_that_were_plain_since_is_let(self):
        # 2 then 1 are asked; 1 is shown, then 2, and never is the screen up to date between.
        program = made("worths 4", "house", "  ask find", "    answer it", "screen", "  cell x 0", "  show x", "  deed go", "    if x = 0",
                       "      ask find 2", "      ask find 1", "    set x x", "  answer find", "    if x = 3", "      set x 3", "    else", "      set x it")
        found = self.told(program, 2, (deed("go"),))
        # Up to date at 1, it falls back to 2.
        self.assertEqual([found[0], len(found[1]), found[2]], ["wrong", 5, "elder"])
        program = made(*program.text.replace("      ask find 1", "      ask find 1\n      set x 3").replace("    if x = 3", "    if x = x").split("\n"))
        self.assertEqual(self.told(program, 2, (deed("go"),))[0], "right")

    def test_never(self):
        # Two asks of one deed have one sequence in the plain meaning.
        program = made(*PAIR, "  deed go", "    ask left 0", "    ask right 0", "  answer left", "    set l 1", "  answer right", "    set r 1")
        self.assertEqual(self.told(program, 1)[0], "right")
        found = self.told(program, 2)
        self.assertEqual([found[0], len(found[1]), found[2]], ["wrong", 3, "never"])
        # It is both: what was never so was not so since either.
        self.assertNotIn((0, 1), [picture for _, _, way in second_led(program, found[1]) for picture in way])
        for word in ("elder", "rest", "", None, True, ("never",), ["never"]):
            self.assertIs(shows_moments(program, 2, found[:2] + (word,)), False)

    def test_a_mixture_of_two(self):
        program = made(*PAIR, "  deed go", "    if l = 0", "      ask left 0", "    else", "      set l 0", "      set r 0", "  answer left",
                       "    set l 1", "    ask right 0", "  answer right", "    set r 1")
        self.assertEqual(self.told(program, 1)[0], "wrong")

    def test_by_chance_up_to_date(self):
        # type 1, done; type 0, by which what is shown is so by chance; then 1 comes, and falls back.
        found = self.told(made(*RISING), 2, (deed("type", 1), deed("type", 0)))
        self.assertEqual([found[0], len(found[1]), found[2]], ["wrong", 4, "elder"])

    def test_an_elder_picture_though_the_picture_was_so_before(self):
        found = self.told(made(*FIND), 2, (deed("type", 1), deed("type", 2), deed("type", 2)))
        self.assertEqual([found[0], len(found[1]), found[2]], ["wrong", 6, "elder"])

    def test_a_moment_is_wrong_whether_a_task_is_there_or_not(self):
        program = made("worths 2", "house", "  ask find", "screen", "  cell x 0", "  cell y 0", "  show x", "  deed go", "    ask find 0", "    set x 1",
                       "    set x y", "  deed set", "    set y 1", "  refused find", "    anew")
        self.assertEqual(self.told(program, 2)[0], "right")

    def test_unsure_hides_what_is_wrong(self):
        rows = PAIR[:-1] + ("  cell y 0", "  show l r")
        deeds = ("  deed go", "    ask left 0", "    ask right 0", "    set y 1", "  answer left", "    set l 1", "    if r = 1", "      set y 0",
                 "  answer right", "    set r 1", "    if l = 1", "      set y 0")
        self.assertEqual(self.told(made(*rows, *deeds), 2, (deed("go"),))[0], "wrong")
        self.assertEqual(self.told(made(*rows, "  unsure y = 1", *deeds), 2, (deed("go"),))[0], "right")

    def test_drawn(self):
        words = {}
        for seed, program in lean_programs(range(400, 490)):
            for many in (1, 2):
                if len(pairs_of(program, many, 120)) <= 120:
                    found = self.told(program, many)
                    words[(found + ("",))[2]] = words.get((found + ("",))[2], 0) + 1
        self.assertGreater(words["never"], 5)
        self.assertGreater(words["elder"], 3)

    def test_drawn_with_deeds(self):
        words = {}
        for seed, program in lean_programs(range(520, 640)):
            found = self.told(program, seed % 3 + 1, drawn_deeds(random.Random(seed), program, 3))
            words[found[0]] = words.get(found[0], 0) + 1
        self.assertGreater(words["right"], 50)
        self.assertGreater(words["wrong"], 2)

    def test_equal_calls(self):
        for rows in (FIND, RISING, LAST):
            self.assertEqual(repr(moments(made(*rows), 2)), repr(moments(made(*rows), 2)))

    def test_by_name(self):
        program = made(*RISING)
        self.assertEqual(moments(program=program, many=2, deeds=None), moments(program, 2))
        self.assertIs(shows_moments(program=program, many=2, value=moments(program, 2), deeds=None), True)
        with self.assertRaises(TypeError):
            moments(program, 2, None)


class Errors(unittest.TestCase):
    def test_many(self):
        program = made(*FIND)
        for value in (0, 5, -1, 10 ** 17, True, False, None, "2", (2,), [2], {2: 2}):
            for call in (lambda: moments(program, value), lambda: moments(program, value, deeds=0), lambda: shows_moments(program, value, None),
                         lambda: shows_moments(program, value, 0, deeds=[])):
                with self.assertRaises(BadMany) as caught:
                    call()
                self.assertIs(caught.exception.value, value)

    def test_deeds(self):
        program = made(*FIND)
        for value in ((deed("type"),) * 9, [], "", 0, False, (None,), (deed("type", 3),), (deed("type", True),), (does(0),), (["deed", "type", 0],)):
            for call in (lambda: moments(program, 2, deeds=value), lambda: shows_moments(program, 2, None, deeds=value)):
                with self.assertRaises(BadDeeds) as caught:
                    call()
                self.assertIs(caught.exception.value, value)
        moments(program, 1, deeds=(deed("type"),) * 8)


class TooManyMembers(unittest.TestCase):
    def test_of_all_pictures_together(self):
        # 256 * 9 pairs come with one task, for each of 4 pictures.
        program = made(*WIDE, "  show a", *WIDE_DEEDS)
        for many in (1, 2):
            with self.assertRaises(TooMany) as caught:
                moments(program, many)
            self.assertEqual(repr(caught.exception.number), "6000")
        self.assertIs(shows_moments(program, 1, ("right", ())), False)
        self.assertIs(shows_moments(program, 1, ("wrong", (deed("one", 1), does(0), comes(0)), "never")), False)

    def test_a_wrong_moment_ahead_of_them(self):
        program = made(*WIDE, "  show a", *WIDE_DEEDS, "  answer find", "    if asked = 1", "      set a 3")
        found = moments(program, 2)
        self.assertEqual([found[0], len(found[1]), found[2]], ["wrong", 2, "never"])

    def test_just_so_many(self):
        for seed, program in lean_programs(range(640, 660)):
            for most in (2, 4, 9, 16, 27, 50, 80):
                wanted = second_moments(program, 2, most=most)
                with mock.patch("lastasked.tables.MOST_MEMBERS", most):
                    if wanted == ("many",):
                        with self.assertRaises(TooMany) as caught:
                            moments(program, 2)
                        self.assertEqual(caught.exception.number, most)
                    else:
                        self.assertEqual(moments(program, 2)[0], wanted[0])


if __name__ == "__main__":
    unittest.main()
