"""Section 9: moments with any number of asks, and the least number with which something goes wrong."""

import random
import unittest
from unittest import mock

from lastasked.counting import ever, least_many, shows_ever, shows_least_many
from lastasked.errors import BadMany, NotCounted, TooMany
from lastasked.moments import moments
from lastasked.plain import plain_first, plain_shown
from lastasked.stands import first_stand
from tests.crowd import counted, judge_rows, lies_in, second_rows
from tests.helper import comes, deed, does, made
from tests.searches import FIND, Counted, is_story, judge_moments, lean_programs, pictures, second_moments, word_at_end
from tests.test_moments import LAST, PAIR, RISING
from tests.test_rests import THREE, WIDE, WIDE_DEEDS
from tests.test_stands import ANY, changed

BOX = ("worths 2", "house", "  ask find", "    answer it", "screen", "  cell x 0", "  show x", "  deed type", "    ask find 0", "  answer find",
       "    set x it")
ONE = FIND[:7] + ("  send find one", "  deed type", "    ask find 1") + FIND[9:]
# Each deed calls off what was asked for by the elder ones.
OFF = FIND[:8] + ("    off find",) + FIND[8:]


class Told(unittest.TestCase):
    def told(self, program):
        """What ever tells, laid beside plain searches."""
        try:
            found = ever(program)
        except TooMany:
            found = ("many",)
        self.assertEqual(found[0], self.wanted(program, found), program.text)
        return found

    def wanted(self, program, found):
        for most in (1, 2, 3):
            rows = second_rows(program, most)
            if rows is None:
                return found[0]
            if rows != "wrong":
                self.assertEqual(repr(found), repr(("right", rows)))
                self.assertIs(shows_ever(program, found), True)
                return "right"
            story = second_moments(program, most)
            if story[0] == "wrong":
                self.assertEqual([len(found), type(found[1]), len(found[1])], [3, tuple, story[1]])
                self.assertTrue(is_story(program, most, found[1]))
                self.assertEqual(found[2], word_at_end(program, found[1]))
                self.assertIs(shows_ever(program, found), True)
                return "wrong"
            if story[0] == "many":
                return "many"
        return "many"


class Ever(Told):
    def test_wrong(self):
        self.assertEqual(self.told(made(*FIND))[1:], (ever(made(*FIND))[1], "elder"))
        self.assertEqual(len(ever(made(*FIND))[1]), 4)
        self.assertEqual([moments(made(*FIND), many)[0] for many in (1, 2, 3, 4)], ["right"] + ["wrong"] * 3)

    def test_right(self):
        for rows in (LAST, BOX, OFF, ONE):
            found = self.told(made(*rows))
            self.assertEqual(found[0], "right")
            for many in (1, 2, 3, 4) if rows in (BOX, ONE) else (1, 2):
                self.assertEqual(moments(made(*rows), many)[0], "right")

    def test_rows(self):
        first, plain = first_stand(made(*BOX)), plain_first(made(*BOX))
        tasks = ((("find", 0, "answered", 0, "live", ()), 0), (("find", 0, "out", 0, "live", ()), 0))
        self.assertEqual(repr(self.told(made(*BOX))), repr(("right", (
            (first[:3] + ((), plain, (0,), True, True), tasks), (first[:3] + ((), plain, (1,), False, False), tasks)))))

    def test_rows_of_single_tasks(self):
        # With take last a live one is single, passed ones are counted.
        found = self.told(made(*LAST))[1]
        for control, bounds in found:
            self.assertLessEqual(len(control[3]), 1)
            self.assertTrue(all(task[4] == "live" for task in control[3]))
            self.assertTrue(all(task[4] == "passed" and bound == 0 for task, bound in bounds))
        # With send one all are, but off ones.
        for control, bounds in self.told(made(*ONE, "  over", "    off find"))[1]:
            self.assertEqual(bounds, ())
        rows = FIND[:7] + ("  send find latest",) + OFF[7:]
        self.assertTrue(all(task[4] == "off" and bound == 0 for _, bounds in self.told(made(*rows))[1] for task, bound in bounds))

    def test_bounds_that_are_numbers(self):
        # Two of them are made once: x is 0 then no more.
        program = made("worths 2", "house", "  ask find", "    answer it", "screen", "  cell x 0", "  cell y 0", "  show y", "  deed go",
                       "    if x = 0", "      ask find 1", "      ask find 1", "    set x 1", "  answer find", "    set y it")
        found = self.told(program)
        self.assertEqual(found[0], "right")
        self.assertEqual({bound for _, bounds in found[1] for _, bound in bounds}, {0})
        # The control does not tell how many of them there are, but with c = 2 the rows do.
        program = made(*program.text.replace("show y", "show x y").split("\n"))
        self.assertEqual(self.told(program)[0], "right")

    def test_two_and_three_are_wanted(self):
        for many, wanted in ((2, {1, 2}), (3, {1, 2, 3})):
            # Each deed asks once, the first so many times alone; what comes counts down and then goes wrong, which never happens.
            program = countdown(many)
            found = self.told(program)
            self.assertEqual(found[0], "right")
            self.assertEqual({bound for _, bounds in found[1] for _, bound in bounds}, wanted)

    def test_the_first_number_that_is_enough(self):
        # Of one ask two are wanted, of the other one there are three at most, which is any number for c = 2.
        program = made("worths 4", "house", "  ask find", "  ask more", "screen", "  cell k 0", "  cell m 0", "  cell x 0", "  cell y 0", "  show y",
                       "  deed go", "    if x = 2", "      set x x", "    else", "      ask find 0", "      add x 1", "  deed run", "    if k = 3",
                       "      set k k", "    else", "      ask more 0", "      add k 1", "  answer find", "    if m = 2", "      set y 1", "    else",
                       "      add m 1")
        found = self.told(program)
        self.assertEqual({(task[0], bound) for _, bounds in found[1] for task, bound in bounds},
                         {("find", 1), ("find", 2), ("more", 0), ("more", 1), ("more", 2)})

    def test_one_more_than_any_number(self):
        # Behind the deed last there are no more asks: any number of them are left, and this one.
        program = made("worths 2", "house", "  ask find", "screen", "  cell k 0", "  cell y 0", "  show y", "  deed go", "    if k = 0",
                       "      ask find 0", "  deed last", "    if k = 0", "      ask find 0", "      set k 1")
        found = self.told(program)
        self.assertEqual({bound for control, bounds in found[1] if control[1] == (1, 0) for _, bound in bounds}, {0})
        for task in ("out", "answered"):
            less = tuple(sorted((control, tuple((sort, 3 if control[1] == (1, 0) and sort[2] == task else bound) for sort, bound in bounds))
                                for control, bounds in found[1]))
            self.assertIs(shows_ever(program, ("right", less)), False)
            self.assertIs(judge_rows(program, less), False)

    def test_none_of_the_looks_tells(self):
        found = self.told(countdown(4))
        self.assertEqual(found, ("many",))
        with self.assertRaises(TooMany) as caught:
            ever(countdown(4))
        self.assertEqual(repr(caught.exception.number), "6000")
        for many in (1, 2, 3, 4):
            self.assertEqual(moments(countdown(4), many)[0], "right")

    def test_wrong_with_three(self):
        found = self.told(THREE)
        self.assertEqual([found[0], len(found[1])], ["wrong", 9])

    def test_take_last_off_and_anew_add_tasks_to_others(self):
        for words, deeds in ((("  take find last",), ()), ((), ("    off find",))):
            program = made(*FIND[:7], *words, *FIND[7:8], *deeds, *FIND[8:])
            self.assertEqual(self.told(program)[0], "right")
        # Tasks that differ by their guesses alone are alike behind anew.
        program = made("worths 2", "house", "  ask find", "    refuse", "screen", "  cell x 0", "  cell y 0", "  show y", "  deed go upto 1",
                       "    ask find 0 guess x = it", "  deed anew", "    anew")
        found = self.told(program)
        self.assertEqual(found[0], "right")
        bounds = [part for _, row in found[1] for part in row]
        self.assertEqual({len(task[5]) for task, _ in bounds}, {0, 1})

    def test_off_leaves_the_tasks_of_other_asks(self):
        # As ant comes, cat is called off; an elder answer of bee can only have been there ahead of it.
        program = made("worths 3", "house", "  cell n 0", "  ask cat", "  ask ant", "    set n 1", "  ask bee", "    answer n", "screen", "  cell k 0",
                       "  cell y 0", "  show y", "  deed go", "    if k = 0", "      ask bee 0", "      ask ant 0", "      set k 1", "  answer ant",
                       "    off cat", "    set k 2")
        found = self.told(program)
        self.assertEqual(found[0], "right")
        self.assertEqual({task[:5] for control, bounds in found[1] if control[1] == (2, 0) for task, _ in bounds},
                         {("bee", 0, "out", 0, "live"), ("bee", 0, "answered", 0, "live"), ("bee", 0, "answered", 1, "live")})

    def test_bounds_are_ascending_behind_several_asks(self):
        # The task of bee is there, that of ant stands ahead of it.
        program = made("worths 3", "house", "  cell n 0", "  ask ant", "    set n 1", "  ask bee", "    set n 2", "screen", "  cell k 0", "  cell y 0",
                       "  show y", "  deed go", "    if k = 0", "      ask bee 0", "      set k 1", "    else", "      if k = 1", "        ask bee 0",
                       "        ask ant 0", "        set k 2")
        found = self.told(program)
        self.assertEqual({bounds for control, bounds in found[1] if (control[0], control[1]) == ((0,), (2, 0))},
                         {((("ant", 0, "out", 0, "live", ()), 1), (("bee", 0, "out", 0, "live", ()), 0))})

    def test_any_number_added_to_some(self):
        # At last one that was called off, any number of passed ones and a live one are called off.
        program = made("worths 4", "house", "  ask find", "screen", "  cell k 0", "  cell y 0", "  show y", "  take find last", "  deed go",
                       "    if k = 0", "      ask find 0", "      set k 1", "    else", "      if k = 2", "        ask find 0", "  deed stop", "    if k = 1",
                       "      off find", "      set k 2", "    else", "      if k = 2", "        off find", "        set k 3")
        found = self.told(program)
        self.assertEqual({bound for control, bounds in found[1] if control[1] == (3, 0) for _, bound in bounds}, {0})
        for most in (1, 2, 3, 9):
            less = tuple(sorted((control, tuple((task, most if control[1] == (3, 0) else bound) for task, bound in bounds))
                                for control, bounds in found[1]))
            self.assertIs(shows_ever(program, ("right", less)), False)
            self.assertIs(judge_rows(program, less), False)

    def test_drawn(self):
        words = {}
        for seed, program in lean_programs(range(40), Counted):
            try:
                ever(program)
            except NotCounted:
                continue
            except TooMany:
                pass
            found = self.told(program)
            words[found[0]] = words.get(found[0], 0) + 1
        self.assertGreater(words["right"], 10)
        self.assertGreater(words["wrong"], 3)

    def test_rows_have_all_members(self):
        checked = 0
        for seed, program in lean_programs(range(90, 150), Counted):
            try:
                found = ever(program)
            except (NotCounted, TooMany):
                continue
            for many in (1, 2, 3):
                told = moments(program, many)
                if found[0] == "right":
                    self.assertEqual(told[0], "right")
                    if len(told[1]) > 500:
                        break
                    for stand, plain, picture, was, since in told[1]:
                        single, others = counted(program, stand[3])
                        control = stand[:3] + (single, plain, picture, was, since)
                        rows = [bounds for other, bounds in found[1] if other == control]
                        self.assertTrue(any(lies_in(tuple(others.items()), bounds) for bounds in rows))
                        checked += 1
        self.assertGreater(checked, 2000)

    def test_ascending_and_none_within_another_one(self):
        for seed, program in lean_programs(range(150, 190), Counted):
            try:
                found = ever(program)
            except (NotCounted, TooMany):
                continue
            if found[0] == "right":
                self.assertEqual(list(found[1]), sorted(set(found[1])))
                rows = {}
                for control, bounds in found[1]:
                    self.assertEqual(list(bounds), sorted(set(bounds)))
                    for other in rows.setdefault(control, []):
                        self.assertFalse(lies_in(bounds, other) or lies_in(other, bounds))
                    rows[control].append(bounds)


def countdown(many):
    """A program whose first so many deeds ask, and that is wrong if more answers than these come.

    With c less than this number, rows let more come.
    """
    rows = ["worths 4", "house", "  ask find", "screen", "  cell k 0", "  cell m 0", "  cell x 0", "  cell y 0", "  show y", "  deed go", "    if k = 0"]
    if many < 4:
        rows += [f"      if x = {many}", "        set x x", "      else", "        ask find 0", "        add x 1"]
        answer = [f"    if m = {many}", "      set y 1", "    else", "      add m 1"]
    else:
        # Four are asked for by two deeds, as there are four worths.
        rows += ["      if x = 2", "        set x x", "      else", "        ask find 0", "        ask find 0", "        add x 1"]
        answer = ["    if k = 1", "      set y 1", "    if m = 3", "      set k 1", "    else", "      add m 1"]
    return made(*rows, "  answer find", *answer)


class ManyRows(unittest.TestCase):
    def test_more_than_6000(self):
        program = made(*WIDE, "  show a b", *WIDE_DEEDS)
        with self.assertRaises(TooMany) as caught:
            ever(program)
        self.assertEqual(repr(caught.exception.number), "6000")
        self.assertIs(shows_ever(program, ("right", ())), False)

    def test_just_so_many(self):
        for seed, program in lean_programs(range(190, 215), Counted):
            try:
                found = ever(program)
            except (NotCounted, TooMany):
                continue
            if found[0] == "right" and len(found[1]) > 8:
                for most in (len(found[1]) - 1, len(found[1])):
                    with mock.patch("lastasked.counting.MOST_MEMBERS", most):
                        if most < len(found[1]):
                            with self.assertRaises(TooMany):
                                ever(program)
                        else:
                            self.assertEqual(ever(program), found)

    def test_more_rows_than_controls(self):
        # Both tasks are out, one is, or none is: three rows of one control, of which none lies in another one.
        program = countdown(2)
        found = ever(program)
        controls = len({control for control, _ in found[1]})
        self.assertLess(controls + 1, len(found[1]))
        for most in (controls - 1, controls, len(found[1]) - 1):
            with mock.patch("lastasked.counting.MOST_MEMBERS", most):
                with self.assertRaises(TooMany):
                    ever(program)
        with mock.patch("lastasked.counting.MOST_MEMBERS", len(found[1])):
            self.assertEqual(ever(program), found)

    def test_rows_that_are_wrong_may_be_more(self):
        # Those for c = 1 come to more controls than rows are told, but at last to a wrong one: by an ask that is done 15 times.
        program = made("worths 4", "house", "  cell n 0", "  cell h 0", "  ask find", "    add n 1", "    if n = 0", "      add h 1",
                       "    if h = 3", "      if n = 3", "        answer 3", "screen", "  cell x 0", "  cell y 0", "  show y", "  deed go",
                       "    if x = 2", "      set x x", "    else", "      ask find 0", "      add x 1", "  answer find", "    if it = 3",
                       "      set y 1")
        found = ever(program)
        self.assertEqual([found[0], second_rows(program, 1)], ["right", "wrong"])
        self.assertEqual(found[1], second_rows(program, 2))
        with mock.patch("lastasked.counting.MOST_MEMBERS", len(found[1])):
            self.assertEqual(ever(program), found)
            # Moments with many = 1 is right then, with many = 2 it would come to too many, but the rows ahead of it are told.
            with mock.patch("lastasked.tables.MOST_MEMBERS", len(moments(program, 1)[1])):
                with self.assertRaises(TooMany):
                    moments(program, 2)
                self.assertEqual(ever(program), found)
        with mock.patch("lastasked.counting.MOST_MEMBERS", len(found[1]) - 1):
            with self.assertRaises(TooMany):
                ever(program)

    def test_rows_that_are_right_but_too_many(self):
        # Those for c = 1 are told, so if they are too many it does not count that those for c = 2 are fewer.
        program = made("worths 4", "house", "  cell n 0", "  ask find", "    add n 1", "    answer n", "screen", "  cell x 0", "  cell y 0", "  show y",
                       "  deed go", "    if x = 2", "      set x x", "    else", "      ask find 0", "      add x 1")
        found = ever(program)
        fewer = second_rows(program, 2)
        self.assertEqual(found, ("right", second_rows(program, 1)))
        self.assertLess(len(fewer), len({control for control, _ in found[1]}))
        for most in (len(fewer) - 1, len(fewer), len(fewer) + 1, len(found[1]) - 1):
            with mock.patch("lastasked.counting.MOST_MEMBERS", most):
                with self.assertRaises(TooMany):
                    ever(program)
        with mock.patch("lastasked.counting.MOST_MEMBERS", len(found[1])):
            self.assertEqual(ever(program), found)

    def test_of_moments_too(self):
        # Rows are wrong with c = 1, so moments with many = 1 is asked, and comes to too many.
        for many in (1, 2, 3):
            members = len(moments(countdown(4), many)[1])
            with mock.patch("lastasked.tables.MOST_MEMBERS", members - 1):
                with self.assertRaises(TooMany):
                    ever(countdown(4))

    def test_no_moments_where_rows_tell(self):
        # Moments would come to too many, but the rows ahead of them are told.
        for rows in (LAST, OFF):
            found = ever(made(*rows))
            with mock.patch("lastasked.tables.MOST_MEMBERS", 3):
                self.assertEqual(ever(made(*rows)), found)


class ShowsEver(unittest.TestCase):
    def told(self, wanted, program, value):
        self.assertIs(shows_ever(program, value), wanted, value)
        if type(value) is tuple and len(value) == 2 and value[0] == "right":
            self.assertIs(judge_rows(program, value[1]), wanted, value)

    def test_stories_of_whatever_number(self):
        program = made(*FIND)
        story = (deed("type", 1), does(0), deed("type", 0), comes(0))
        self.told(True, program, ("wrong", story, "elder"))
        five = tuple(deed("type", n) for n in (1, 2, 1, 2, 1))
        self.told(True, program, ("wrong", five + (deed("type", 0), does(0), comes(0)), "elder"))
        self.told(True, program, ("wrong", five * 3 + (deed("type", 0), does(0), comes(0)), "elder"))
        self.told(False, program, ("wrong", five + (does(0), comes(0)), "elder"))
        for value in (("wrong", story, "never"), ("wrong", story), ("wrong", story[:-1], "elder"), ("wrong", story + (comes(0),), "elder"),
                      ("wrong", list(story), "elder"), ["wrong", story, "elder"], ("right", story), ("wrong", (), "elder"),
                      ("right", story, "elder"), ("", story, "elder"), (True, story, "elder"), ("wrong", story, "elder", "elder")):
            self.told(False, program, value)

    def test_one_thing_otherwise(self):
        for rows in (BOX, ONE):
            program = made(*rows)
            found = ever(program)
            others = [value for value in changed(found) if repr(value) != repr(found)]
            self.assertGreater(len(others), 1000)
            for value in others[::7]:
                is_table = type(value) is tuple and len(value) == 2 and value[0] == "right"
                self.told(is_table and judge_rows(program, value[1]), program, value)

    def test_rows_left_out(self):
        for rows in (LAST, OFF, BOX):
            table = ever(made(*rows))[1]
            for n in range(0, len(table), 7):
                self.told(False, made(*rows), ("right", table[:n] + table[n + 1:]))
                self.told(False, made(*rows), ("right", table[:n] + table[n:n + 1] + table[n:]))
            self.told(False, made(*rows), ("right", table[::-1]))
            self.told(False, made(*rows), ("right", list(table)))

    def test_more_rows(self):
        # Rows that lie in others, each closed by itself.
        for seed, program in lean_programs(range(215, 250), Counted):
            try:
                found = ever(program)
            except (NotCounted, TooMany):
                continue
            if found[0] == "right" and len(found[1]) < 40:
                draw = random.Random(seed)
                more = set(found[1])
                for control, bounds in found[1]:
                    less = tuple((task, bound or draw.randint(0, 3)) for task, bound in bounds if draw.random() < 0.7)
                    more.add((control, less))
                self.told(True, program, ("right", tuple(sorted(more))))
                if len(more) > len(found[1]):
                    self.told(judge_rows(program, tuple(sorted(more - set(found[1][:1])))), program, ("right", tuple(sorted(more - set(found[1][:1])))))

    def test_greater_bounds(self):
        for many in (2, 3):
            program = countdown(many)
            table = ever(program)[1]
            # All numbers of the answers that come once are bounded by the control, so greater ones would lead further.
            self.told(True, program, ("right", table))
            for n in range(0, len(table), 2):
                control, bounds = table[n]
                for k in range(len(bounds)):
                    for bound in (0, bounds[k][1] + 1, bounds[k][1] - 1):
                        row = control, bounds[:k] + ((bounds[k][0], bound),) + bounds[k + 1:]
                        value = tuple(sorted(table[:n] + (row,) + table[n + 1:]))
                        self.told(judge_rows(program, value), program, ("right", value))
        # Tasks to which no moves lead may be there, too, as long as nothing goes wrong.
        program = made(*BOX)
        table = ever(program)[1]
        out, done = ("find", 1, "out", 0, "passed", ()), ("find", 1, "answered", 1, "passed", ())
        for more, wanted in ((((done, 0), (out, 3)), True), (((done, 0), (out, 0)), True), (((done, 3),), True), (((done, 0),), True),
                             (((done, 6), (out, 3)), False), (((out, 3),), False), (((done, 3), (out, 0)), False)):
            value = tuple((control, tuple(sorted(bounds + more))) for control, bounds in table)
            self.told(wanted, program, ("right", value))

    def test_singles_among_the_bounds(self):
        program = made(*LAST)
        table = ever(program)[1]
        for n in range(len(table)):
            control, bounds = table[n]
            if control[3]:
                row = control, tuple(sorted(bounds + ((control[3][0], 1),)))
                self.told(False, program, ("right", table[:n] + (row,) + table[n + 1:]))
                row = control[:3] + ((),) + control[4:], row[1]
                self.told(False, program, ("right", tuple(sorted(table[:n] + (row,) + table[n + 1:]))))
                row = control[:3] + (control[3] * 2,) + control[4:], bounds
                self.told(False, program, ("right", tuple(sorted(table[:n] + (row,) + table[n + 1:]))))
            if bounds:
                row = control[:3] + (tuple(sorted(control[3] + (bounds[0][0],))),) + control[4:], bounds[1:]
                self.told(False, program, ("right", tuple(sorted(table[:n] + (row,) + table[n + 1:]))))

    def test_more_rows_of_another_form(self):
        # What comes behind these is there, but a single task is no bound, and another one is no single task.
        program = made(*LAST)
        table = ever(program)[1]
        for control, bounds in table[::4]:
            if control[3]:
                row = control[:3] + ((),) + control[4:], tuple(sorted(bounds + ((control[3][0], 1),)))
                self.told(False, program, ("right", tuple(sorted(table + (row,)))))
        program = made(*BOX)
        table = ever(program)[1]
        for control, bounds in table:
            for task, _ in bounds:
                for less in (bounds, ()):
                    row = control[:3] + ((task,),) + control[4:], less
                    self.told(False, program, ("right", tuple(sorted(table + (row,)))))
                self.told(True, program, ("right", tuple(sorted(table + ((control, ((task, 4),)),)))))
                for bound in (-1, -4, True, False, None, "1", (1,), [1]):
                    self.told(False, program, ("right", table + ((control, ((task, bound),)),)))
                    self.told(False, program, ("right", ((control, ((task, bound),)),) + table))
                    self.told(False, program, ("right", table[:1] + ((control, ((task, bound),)),) + table[1:]))

    def test_single_tasks_that_lead_to_no_other_rows(self):
        # What these come to is there, but they stand where no such tasks can stand, out of sequence or twice.
        program = made("worths 2", "house", "  ask ant", "  ask bee", "screen", "  cell k 0", "  cell y 0", "  show y", "  take bee last", "  send ant one",
                       "  deed go", "    if k = 0", "      ask ant 0", "      ask bee 0", "      set k 1")
        table = ever(program)[1]
        ant, bee = ("ant", 0, "answered", 0, "live", ()), ("bee", 0, "answered", 0, "live", ())
        for control, bounds in table:
            if control[3] == (ant, bee):
                empty = control[:3] + ((),) + control[4:]
                for singles, more in (((bee, ant), ()), ((ant, ant), ()), ((ant, ant, bee), ()), ((), ((ant, 1),)), ((), ((bee, 1),)), ((ant,), ((bee, 1),)),
                                      ((bee,), ((ant, 1),)), ((), ((ant, 1), (bee, 1)))):
                    row = empty[:3] + (singles,) + empty[4:], more
                    self.told(False, program, ("right", tuple(sorted(table + (row,)))))
                self.assertEqual(bounds, ())
        self.assertIn((ant, bee), [control[3] for control, _ in table])

    def test_wrong_rows(self):
        still = made("worths 2", "house", "  ask find", "screen", "  cell x 0", "  show x", "  deed go", "    set x x")
        table = ever(still)[1]
        self.assertEqual(len(table), 2)
        for was, since in ((True, True), (True, False), (False, True), (False, False)):
            row = ((), (1,), (), (), ((), (0,)), (1,), was, since), ()
            self.told(was and since, still, ("right", tuple(sorted(table + (row,)))))

    def test_any(self):
        program = made(*BOX)
        row = ever(program)[1][0]
        for value in ANY:
            for told in (value, ("right", value), ("wrong", value, "elder"), ("wrong", value), ("right", (value,)), ("right", ((value, ()),)),
                         ("right", ((row[0], value),)), ("right", ((row[0], (value,)),)), ("right", ((row[0], ((value, 1),)),))):
                self.assertIs(shows_ever(program, told), False)

    def test_by_name(self):
        program = made(*BOX)
        self.assertIs(shows_ever(program=program, value=ever(program=program)), True)


class LeastMany(unittest.TestCase):
    def judge(self, program, many, value):
        """A plain second judge."""
        if type(value) is not tuple or value == () or type(value[0]) is not str:
            return False
        if len(value) == 2:
            return value[0] == "right" and judge_moments(program, many, value[1])
        if len(value) != 4 or value[0] != "from" or type(value[1]) is not int or not 1 <= value[1] <= many:
            return False
        if not is_story(program, value[1], value[2]) or word_at_end(program, value[2]) == "":
            return False
        return repr(value[3]) == "()" if value[1] == 1 else judge_moments(program, value[1] - 1, value[3])

    def told(self, program, many):
        found = least_many(program, many)
        for number in range(1, many + 1):
            story = moments(program, number)
            if story[0] == "wrong":
                self.assertEqual([type(found), len(found), found[:2]], [tuple, 4, ("from", number)])
                self.assertEqual([len(found[2]), word_at_end(program, found[2]) != ""], [len(story[1]), True])
                self.assertEqual(repr(found[3]), repr(() if number == 1 else moments(program, number - 1)[1]))
                break
        else:
            self.assertEqual(repr(found), repr(moments(program, many)))
        self.assertIs(shows_least_many(program, many, found), True)
        return found

    def test_find(self):
        self.assertEqual(self.told(made(*FIND), 1)[0], "right")
        for many in (2, 3, 4):
            self.assertEqual(self.told(made(*FIND), many)[1], 2)

    def test_one(self):
        program = made(*PAIR, "  deed go", "    ask left 0", "  answer left", "    set r l", "    set l 1", "  refused left", "    anew")
        self.assertEqual(self.told(program, 2)[0], "right")
        # The answer reads what was written since it was asked for.
        program = made("worths 3", "house", "  ask find", "screen", "  cell x 0", "  cell y 0", "  show x", "  deed go", "    ask find 0",
                       "  deed turn", "    add y 1", "  answer find", "    set x y")
        for many in (1, 3):
            self.assertEqual(self.told(program, many)[1], 1)

    def test_three(self):
        program = THREE
        self.assertEqual(self.told(program, 2)[0], "right")
        for many in (3, 4):
            self.assertEqual(self.told(program, many)[1], 3)

    def test_not_counted_programs_too(self):
        self.assertEqual(self.told(made(*RISING), 4)[1], 2)

    def test_drawn(self):
        words = {}
        for seed, program in lean_programs(range(800, 840)):
            if moments_come_to(program, 3, 1200):
                found = self.told(program, 3)
                words[found[:2] if found[0] == "from" else "right"] = words.get(found[0], 0) + 1
        self.assertGreaterEqual(set(words), {"right", ("from", 1), ("from", 2)})

    def test_too_many(self):
        program = made(*WIDE, "  show a", *WIDE_DEEDS)
        for many in (1, 4):
            with self.assertRaises(TooMany) as caught:
                least_many(program, many)
            self.assertEqual(repr(caught.exception.number), "6000")
        members = len(moments(made(*LAST), 1)[1])
        with mock.patch("lastasked.tables.MOST_MEMBERS", members):
            self.assertEqual(least_many(made(*LAST), 1)[0], "right")
            with self.assertRaises(TooMany):
                least_many(made(*LAST), 2)
        self.assertIs(shows_least_many(program, 1, ("right", ())), False)

    def test_one_thing_otherwise(self):
        program = made(*BOX)
        found = least_many(program, 2)
        for value in changed(found):
            if repr(value) != repr(found):
                self.assertIs(shows_least_many(program, 2, value), False)
        found = least_many(made(*FIND), 4)
        for value in changed(found[:3]):
            self.assertIs(shows_least_many(made(*FIND), 4, value), False)
            if type(value) is tuple:
                value = value + found[3:]
                self.assertIs(shows_least_many(made(*FIND), 4, value), self.judge(made(*FIND), 4, value), value)

    def test_others(self):
        program = made(*FIND)
        _, number, story, table = least_many(program, 3)
        for value in (("from", 3, story, table), ("from", 1, story, ()), ("from", 1, story, table), ("from", True, story, ()), ("from", 2, story, ()),
                      ("from", 2, story, table[1:]), ("from", 2, story[:-1], table), ("from", 2, story, list(table)), ("right", table),
                      ("from", 4, story, moments(made(*LAST), 3)[1]), ("from", 0, story, ()), ("from", 2, story, table, "elder")):
            self.assertIs(shows_least_many(program, 3, value), False)
        self.assertIs(shows_least_many(program, 3, ("from", 2, (deed("type", 0), does(0), comes(0)) + story, table)), True)
        self.assertIs(shows_least_many(program, 1, ("from", 2, story, table)), False)
        self.assertIs(shows_least_many(program, 1, ("right", table)), True)
        for value in ANY:
            for told in (value, ("right", value), ("from", value, story, table), ("from", 2, value, table), ("from", 2, story, value)):
                self.assertIs(shows_least_many(program, 3, told), False)

    def test_from_none(self):
        # No ask is under way behind this deed, but what it takes back is not what the plain meaning takes out.
        program = made("worths 2", "house", "  ask find", "screen", "  cell x 0", "  cell y 0", "  show x y", "  send find resting", "  deed go",
                       "    ask find 0 guess x = 1", "    set x 1", "    set y 1", "    off find")
        found = self.told(program, 2)
        self.assertEqual(found, ("from", 1, (deed("go"),), ()))
        first = tuple(first_members(program))
        for value in (("from", 0, found[2], first), ("from", 0, found[2], ()), ("from", 2, found[2], first), ("from", 1, found[2], first)):
            self.assertIs(shows_least_many(program, 2, value), False)

    def test_many(self):
        for value in (0, 5, True, None, "1", (1,), [1]):
            for call in (lambda: least_many(made(*FIND), value), lambda: shows_least_many(made(*FIND), value, None)):
                with self.assertRaises(BadMany) as caught:
                    call()
                self.assertIs(caught.exception.value, value)

    def test_by_name(self):
        program = made(*BOX)
        self.assertIs(shows_least_many(program=program, many=2, value=least_many(program=program, many=2)), True)


def first_members(program):
    """The members of moments ahead of all moves."""
    stand, plain = first_stand(program), plain_first(program)
    for picture in pictures(program):
        so = picture == plain_shown(program, plain)
        yield stand, plain, picture, so, so


def moments_come_to(program, many, most):
    """Whether moments tells something, and no table of more members."""
    try:
        found = moments(program, many)
    except TooMany:
        return False
    return found[0] == "wrong" or len(found[1]) <= most


if __name__ == "__main__":
    unittest.main()
