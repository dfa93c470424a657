"""Section 8: whether any value is what rests or moments may tell."""

import random
import unittest

from lastasked.moments import moments, shows_moments
from lastasked.plain import plain_first
from lastasked.rests import rests, shows_rests
from lastasked.stands import first_stand, is_stand, shown
from tests.helper import comes, deed, does, made
from tests.searches import (
    FIND, closed_with, judge_moments_value, judge_rests_value, lean_programs, pictures, second_led, steps_from)
from tests.test_moments import PAIR
from tests.test_rests import HOUSE
from tests.test_stands import ANY, changed

TYPE = made("worths 2", "house", "  ask find", "    answer it", "screen", "  cell x 0", "  show x", "  deed type", "    ask find 1", "  answer find",
            "    set x it")
LIKE = made("worths 2", "house", "  cell n 0", "  ask like", "    set n it", "    answer n", "screen", "  cell v 0", "  show v", "  keep like both",
            "  back v redone", "  deed tap", "    ask like 1 guess v + 1", "  answer like", "    set v it")
FULL = made(*FIND)
STORY = (deed("type", 1), deed("type", 0), does(0), does(1), comes(1), comes(0))


class Told(unittest.TestCase):
    def rests_told(self, wanted, program, many, value, houses=False, deeds=None):
        self.assertIs(shows_rests(program, many, value, houses=houses, deeds=deeds), wanted, value)
        self.assertIs(judge_rests_value(program, many, value, houses, deeds), wanted, value)

    def moments_told(self, wanted, program, many, value, deeds=None):
        self.assertIs(shows_moments(program, many, value, deeds=deeds), wanted, value)
        self.assertIs(judge_moments_value(program, many, value, deeds), wanted, value)


class Stories(Told):
    def test_any_length(self):
        turn = (deed("type", 1), does(0), comes(0))
        for story in (STORY, turn + STORY, turn + turn + STORY, turn * 20 + STORY):
            self.rests_told(True, FULL, 2, ("wrong", story))
            self.moments_told(True, FULL, 2, ("wrong", story, "elder"))

    def test_not_wrong(self):
        for story in ((), STORY[:-1], STORY + (deed("type", 2), does(0), comes(0)), (deed("type", 1), does(0), comes(0))):
            self.rests_told(False, FULL, 2, ("wrong", story))
            for word in ("elder", "never", ""):
                self.moments_told(False, FULL, 2, ("wrong", story, word))

    def test_a_wrong_moment_that_is_no_rest(self):
        story = (deed("type", 1), does(0), deed("type", 0), comes(0))
        self.moments_told(True, FULL, 2, ("wrong", story, "elder"))
        self.rests_told(False, FULL, 2, ("wrong", story))
        # What went wrong on the way is no moment at the end.
        self.moments_told(False, FULL, 2, ("wrong", story + (does(0), comes(0)), "elder"))

    def test_where_nothing_is_shown(self):
        # The plain meaning is never unsure, but the screen is where an answer comes that is not wanted any more.
        program = made("worths 3", "house", "  ask find", "    answer it", "screen", "  cell x 0", "  cell want 0", "  show x", "  unsure x = 2",
                       "  deed type upto 1", "    set want it", "    ask find it", "  answer find", "    if asked = want", "      set x it", "    else",
                       "      set x 2")
        story = (deed("type", 1), deed("type", 0), does(0), comes(0))
        self.assertIsNone(shown(program, second_led(program, story)[-1][0]))
        for n in range(1, len(story) + 1):
            for word in ("never", "elder", ""):
                self.moments_told(False, program, 2, ("wrong", story[:n], word))
        # A rest that is unsure is wrong by itself.
        self.rests_told(False, program, 2, ("wrong", story))
        self.rests_told(True, program, 2, ("wrong", (deed("type", 1), deed("type", 0), does(1), comes(1), does(0), comes(0))))

    def test_for_many(self):
        for many in (1, 2, 3, 4):
            self.rests_told(many > 1, FULL, many, ("wrong", STORY))
            self.moments_told(many > 1, FULL, many, ("wrong", STORY, "elder"))

    def test_the_word(self):
        for word in ("never", "rest", "", "Elder", None, 0, True, ("elder",), ["elder"], {"elder": 0}):
            self.moments_told(False, FULL, 2, ("wrong", STORY, word))
        program = made(*PAIR, "  deed go", "    ask left 0", "    ask right 0", "  answer left", "    set l 1", "  answer right", "    set r 1")
        story = (deed("go"), does(1), comes(1))
        self.moments_told(True, program, 2, ("wrong", story, "never"))
        self.moments_told(False, program, 2, ("wrong", story, "elder"))

    def test_houses(self):
        story = (deed("flip", 1), deed("flip", 0), does(1), does(0), comes(0), comes(0))
        self.rests_told(False, HOUSE, 2, ("wrong", story))
        self.rests_told(True, HOUSE, 2, ("wrong", story), houses=True)
        self.rests_told(True, FULL, 2, ("wrong", STORY), houses=True)
        self.rests_told(False, HOUSE, 2, ("wrong", story[:-1]), houses=True)

    def test_deeds(self):
        first, second = STORY[:2]
        for deeds, wanted in (((first, second), True), ((first, second, first), True), ((first, second) + (first,) * 6, True), ((), False),
                              ((first,), False), ((second, first), False), ((first, first, second), False), ((second,), False)):
            self.rests_told(wanted, FULL, 2, ("wrong", STORY), deeds=deeds)
            self.moments_told(wanted, FULL, 2, ("wrong", STORY, "elder"), deeds=deeds)

    def test_no_stories(self):
        for value in ANY + (list(STORY), STORY[::-1], STORY[1:], STORY[:3] + STORY[4:], tuple(list(move) for move in STORY)):
            self.rests_told(False, FULL, 2, ("wrong", value))
            self.moments_told(False, FULL, 2, ("wrong", value, "elder"))

    def test_one_thing_otherwise(self):
        many = 0
        for value in changed(("wrong", STORY)):
            if repr(value) != repr(("wrong", STORY)):
                self.rests_told(judge_rests_value(FULL, 2, value), FULL, 2, value)
                many += 1
        for value in changed(("wrong", STORY, "elder")):
            self.moments_told(judge_moments_value(FULL, 2, value), FULL, 2, value)
        self.assertGreater(many, 300)


class Tables(Told):
    def test_one_thing_otherwise(self):
        # All members are needed, so no other table of as many is closed.
        for program, houses, deeds in ((TYPE, False, None), (TYPE, True, (deed("type"),)), (LIKE, True, (deed("tap"),))):
            found = rests(program, 1, houses=houses, deeds=deeds)
            self.rests_told(True, program, 1, found, houses, deeds)
            for value in changed(found):
                if repr(value) != repr(found):
                    self.assertIs(shows_rests(program, 1, value, houses=houses, deeds=deeds), False, value)
            found = moments(program, 1, deeds=deeds)
            self.moments_told(True, program, 1, found, deeds)
            for value in changed(found):
                if repr(value) != repr(found):
                    self.assertIs(shows_moments(program, 1, value, deeds=deeds), False, value)

    def test_members_left_out_twice_or_out_of_sequence(self):
        for call, shows in ((rests, self.rests_told), (moments, self.moments_told)):
            program = made(*FIND[:7], "  take find last", *FIND[7:])
            table = call(program, 1)[1]
            for n in range(0, len(table), 5):
                shows(False, program, 1, ("right", table[:n] + table[n + 1:]))
                shows(False, program, 1, ("right", table[:n] + table[n:n + 1] + table[n:]))
                if n + 2 <= len(table):
                    shows(False, program, 1, ("right", table[:n] + table[n:n + 2][::-1] + table[n + 2:]))
            shows(True, program, 1, ("right", table))
            shows(False, program, 1, ("right", list(table)))
            shows(False, program, 1, ("right", table[::-1]))
            shows(False, program, 1, ["right", table])
            shows(False, program, 1, ("right", table, "never"))
            shows(False, program, 1, ("wrong", table))
            shows(False, program, 1, ("right", tuple(list(member) for member in table)))

    def test_the_empty_table(self):
        self.rests_told(False, TYPE, 1, ("right", ()))
        self.moments_told(False, TYPE, 1, ("right", ()))
        self.rests_told(True, TYPE, 1, ("right", ((first_stand(TYPE), plain_first(TYPE), 0),)), deeds=())

    def test_larger_tables(self):
        larger = 0
        for seed, program in lean_programs(range(700, 740)):
            found, draw = rests(program, 1), random.Random(seed)
            if found[0] == "wrong" or len(found[1]) > 60:
                continue
            others = [stand for stand, _ in found[1] for stand in changed(stand) if is_stand(program, stand)]
            for stand in draw.sample(others, min(6, len(others))):
                plain = tuple(tuple(draw.randrange(program.worths) for _ in part) for part in plain_first(program))
                more = closed_with(program, 1, stand, plain)
                if len(more) > 250:
                    continue
                table = tuple(sorted(more | set(found[1])))
                wanted = judge_rests_value(program, 1, ("right", table))
                self.rests_told(wanted, program, 1, ("right", table))
                larger += wanted and len(table) > len(found[1])
                # Without what lies behind its moves it is closed only if all that lies behind was there.
                table = tuple(sorted({(stand, plain)} | set(found[1])))
                self.rests_told(judge_rests_value(program, 1, ("right", table)), program, 1, ("right", table))
        self.assertGreater(larger, 15)

    def test_larger_tables_of_moments(self):
        # Members that say of a picture that it was so since, though no moves lead to them.
        found = moments(TYPE, 1)[1]
        more = set(found)
        for stand, plain, picture, _, _ in found:
            more.add((stand, plain, picture, True, True))
        table = tuple(sorted(more))
        self.moments_told(judge_moments_value(TYPE, 1, ("right", table)), TYPE, 1, ("right", table))
        left = list(more)
        while left:
            stand, plain, picture, was, since = left.pop()
            for _, behind, later, way, _ in steps_from(TYPE, 1, stand, plain):
                so = later[1] == behind[1]
                member = (behind, later, picture, was or picture in way, behind[1] == picture if so else since or picture in way)
                if member not in more:
                    more.add(member)
                    left.append(member)
        self.assertGreater(len(more), len(found))
        table = tuple(sorted(more))
        self.moments_told(True, TYPE, 1, ("right", table))
        for n in range(len(table)):
            self.moments_told(judge_moments_value(TYPE, 1, ("right", table[:n] + table[n + 1:])), TYPE, 1, ("right", table[:n] + table[n + 1:]))

    def test_wrong_members(self):
        # The table is closed, but a member of it is wrong.
        pairs = closed_with(FULL, 2, first_stand(FULL), plain_first(FULL))
        self.rests_told(False, FULL, 2, ("right", tuple(sorted(pairs))))
        pairs = closed_with(HOUSE, 2, first_stand(HOUSE), plain_first(HOUSE))
        self.rests_told(True, HOUSE, 2, ("right", tuple(sorted(pairs))))
        self.rests_told(False, HOUSE, 2, ("right", tuple(sorted(pairs))), houses=True)
        still = made("worths 2", "house", "  ask find", "screen", "  cell x 0", "  show x", "  deed go", "    set x x")
        first = first_stand(still), plain_first(still)
        table = tuple(first + (picture,) + ((picture == (0,)),) * 2 for picture in pictures(still))
        self.moments_told(True, still, 1, ("right", table))
        for was, since in ((False, True), (True, False), (False, False), (True, True)):
            more = table + ((((), (1,), (), ()), ((), (0,)), (1,), was, since),)
            self.moments_told(was and since, still, 1, ("right", tuple(sorted(more))))

    def test_for_another_many(self):
        for program in (TYPE, HOUSE):
            for shows, call in ((self.rests_told, rests), (self.moments_told, moments)):
                tables = [call(program, many) for many in (1, 2, 3)]
                for many in (1, 2, 3):
                    for n in (1, 2, 3):
                        # One for more asks is closed for fewer, too.
                        shows(n >= many, program, many, tables[n - 1])

    def test_for_other_deeds(self):
        one, two = (deed("type"),), (deed("type"), deed("type"))
        for call, shows in ((rests, self.rests_told), (moments, self.moments_told)):
            shows(False, TYPE, 1, call(TYPE, 1, deeds=one))
            shows(False, TYPE, 1, call(TYPE, 1), deeds=one)
            shows(False, TYPE, 1, call(TYPE, 1, deeds=one), deeds=two)
            shows(False, TYPE, 1, call(TYPE, 1, deeds=two), deeds=one)
            shows(True, TYPE, 1, call(TYPE, 1, deeds=two), deeds=two)

    def test_any(self):
        for value in ANY + tuple((word, value) for word in ("right", "wrong") for value in ANY) + (("right",), ("wrong",), "right", "wrong"):
            self.rests_told(False, TYPE, 1, value)
            self.moments_told(False, TYPE, 1, value)
        for value in ANY:
            for parts in (("right", (value,)), ("right", (value, value)), ("right", ((value, value),)), ("right", ((value,) * 5,)),
                          ("right", ((first_stand(TYPE), value),)), ("right", ((value, plain_first(TYPE)),))):
                self.rests_told(False, TYPE, 1, parts)
                self.moments_told(False, TYPE, 1, parts)

    def test_what_is_handed_in_stays(self):
        value = ["right", [(first_stand(TYPE), [0])]]
        shows_rests(TYPE, 1, tuple(value))
        shows_moments(TYPE, 1, tuple(value))
        self.assertEqual(value, ["right", [(first_stand(TYPE), [0])]])
        self.assertEqual(second_led(TYPE, ())[0][:2], (first_stand(TYPE), plain_first(TYPE)))


if __name__ == "__main__":
    unittest.main()
