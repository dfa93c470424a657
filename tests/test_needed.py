"""Section 13: the fewest deeds with which something goes wrong."""

import itertools
import random
import unittest
from unittest import mock

from lastasked.errors import BadDeeds, BadLooks, BadMany, TooMany
from lastasked.rests import rests
from lastasked.stories import needed, shows_needed
from tests.helper import comes, deed, does, made
from tests.searches import FIND, drawn_deeds, lean_programs, second_moments, second_rests
from tests.test_guarded import BAD_LOOKS, LOOKS, SAVE, is_table, is_wrong_by
from tests.test_moments import LAST
from tests.test_rests import HOUSE, THREE, WIDE, WIDE_DEEDS
from tests.test_stands import ANY, changed
from tests.test_steady import answering_programs

TYPE = made(*FIND)
ONE, TWO, NONE = deed("type", 1), deed("type", 2), deed("type", 0)


def choices(deeds):
    """All places by size."""
    return [places for many in range(len(deeds) + 1) for places in itertools.combinations(range(len(deeds)), many)]


def look_at(program, many, look, deeds):
    if look == "moments":
        return second_moments(program, many, deeds)
    return second_rests(program, many, look == "houses", deeds)


def judge(program, many, looks, deeds, value):
    """A plain second judge."""
    if type(value) is not tuple or len(value) not in (2, 5) or value[0] != ("none" if len(value) == 2 else "deeds"):
        return False
    places = choices(deeds)
    if len(value) == 5:
        found = [n for n, row in enumerate(places) if repr(row) == repr(value[1])]
        if not found or type(value[2]) is not str or value[2] not in looks:
            return False
        if not is_wrong_by(program, many, value[2], value[3], tuple(deeds[n] for n in value[1])):
            return False
        places = places[:found[0]]
    rows = value[-1]
    if type(rows) is not tuple or len(rows) != len(places):
        return False
    for row, numbers in zip(rows, places):
        if type(row) is not tuple or len(row) != 2 or repr(row[0]) != repr(numbers) or type(row[1]) is not tuple or len(row[1]) != len(looks):
            return False
        if not all(is_table(program, many, look, table, tuple(deeds[n] for n in numbers)) for look, table in zip(looks, row[1])):
            return False
    return True


class Told(unittest.TestCase):
    def told(self, program, many, looks, deeds):
        """What needed tells, laid beside plain searches."""
        found = needed(program, many, looks, deeds)
        rows = []
        for numbers in choices(deeds):
            results = [(look, look_at(program, many, look, tuple(deeds[n] for n in numbers))) for look in looks]
            wrongs = [(look, result) for look, result in results if result[0] == "wrong"]
            if wrongs:
                look, result = wrongs[0]
                self.assertEqual([type(found), len(found)], [tuple, 5])
                self.assertEqual(repr(found[:3] + found[4:]), repr(("deeds", numbers, look, tuple(rows))))
                self.assertEqual([type(found[3]), len(found[3])], [tuple, result[1]])
                self.assertTrue(is_wrong_by(program, many, look, found[3], tuple(deeds[n] for n in numbers)))
                break
            rows.append((numbers, tuple(tuple(sorted(result[1])) for _, result in results)))
        else:
            self.assertEqual(repr(found), repr(("none", tuple(rows))))
        self.assertIs(shows_needed(program, many, looks, deeds, found), True)
        return found

    def shows(self, wanted, program, many, looks, deeds, value):
        self.assertIs(shows_needed(program, many, looks, deeds, value), wanted, value)
        self.assertIs(judge(program, many, looks, deeds, value), wanted, value)


class Needed(Told):
    def test_by_size_then_as_tuples(self):
        # The first two are alike, so no answer of the elder one is missed.
        for deeds, numbers in (((ONE, ONE, TWO), (0, 2)), ((ONE, TWO), (0, 1)), ((NONE, NONE, NONE, ONE), (0, 3)), ((ONE, ONE, ONE, TWO, NONE), (0, 3)),
                               ((TWO, TWO, NONE, ONE), (0, 2)), ((ONE, ONE, TWO, ONE), (0, 2))):
            self.assertEqual(self.told(TYPE, 2, ("rests",), deeds)[1], numbers)

    def test_rows(self):
        found = self.told(TYPE, 2, ("moments", "rests"), (ONE, ONE, TWO))
        self.assertEqual([row[0] for row in found[4]], [(), (0,), (1,), (2,), (0, 1)])
        self.assertEqual([len(row[1]) for row in found[4]], [2] * 5)
        self.assertEqual([len(row[1][1]) for row in found[4]][:2], [1, 4])

    def test_the_empty_row(self):
        for look in LOOKS:
            found = self.told(TYPE, 2, (look,), ())
            self.assertEqual([found[0], len(found[1]), found[1][0][0], len(found[1][0][1])], ["none", 1, (), 1])
        self.assertEqual([len(table) for table in self.told(TYPE, 2, LOOKS, ())[1][0][1]], [1, 3, 1])

    def test_none(self):
        found = self.told(made(*LAST), 2, ("rests",), (ONE, TWO, NONE))
        self.assertEqual([found[0], [row[0] for row in found[1]]], ["none", [(), (0,), (1,), (2,), (0, 1), (0, 2), (1, 2), (0, 1, 2)]])
        self.assertEqual(self.told(TYPE, 1, ("rests",), (ONE, TWO, NONE))[0], "none")

    def test_a_later_deed_mends(self):
        # Between the two it calls the elder one off, so all three are right, and two of them are not.
        rows = ("worths 3", "house", "  ask find", "    answer it", "screen", "  cell x 0", "  show x", "  deed type upto 2", "    ask find it", "  deed wipe", "    off find",
                "    set x 0", "  answer find", "    set x it")
        program = made(*rows)
        mended = (ONE, deed("wipe"), TWO)
        self.assertEqual(rests(program, 2, deeds=mended)[0], "right")
        self.assertEqual(self.told(program, 2, ("rests",), mended)[:2], ("deeds", (0, 2)))
        # At the end it comes too late: the two are wrong at a rest ahead of it.
        self.assertEqual(rests(program, 2, deeds=(ONE, TWO, deed("wipe")))[0], "wrong")
        self.assertEqual(self.told(program, 2, ("rests",), (ONE, TWO, deed("wipe")))[1], (0, 1))

    def test_the_first_wrong_look(self):
        # By moments a fall is wrong, by rests too; by houses the house, which rests do not ask for.
        self.assertEqual(self.told(TYPE, 2, LOOKS, (ONE, TWO))[2], "houses")
        self.assertEqual(self.told(TYPE, 2, ("moments", "rests"), (ONE, TWO))[2], "moments")
        self.assertEqual(self.told(HOUSE, 2, LOOKS, (deed("flip", 1), deed("flip", 0)))[:3], ("deeds", (0, 1), "houses"))
        self.assertEqual(self.told(HOUSE, 2, ("moments", "rests"), (deed("flip", 1), deed("flip", 0)))[0], "none")
        rising = made(*FIND[:7], "  take find rising", *FIND[7:])
        self.assertEqual(self.told(rising, 2, ("moments", "rests"), (ONE, NONE))[:3], ("deeds", (0, 1), "moments"))
        self.assertEqual(self.told(rising, 2, ("houses", "rests"), (ONE, NONE))[0], "none")
        self.assertEqual(self.told(rising, 2, ("moments", "rests"), (ONE, TWO, NONE))[1:3], ((0, 2), "moments"))

    def test_a_deed_that_stands_twice(self):
        self.assertEqual(self.told(TYPE, 2, ("rests",), (ONE, ONE))[:1], ("none",))
        self.assertEqual(self.told(TYPE, 2, ("rests",), (ONE, TWO, ONE, TWO))[1], (0, 1))
        self.assertEqual(self.told(THREE, 3, ("rests",), (deed("go"),) * 4)[1], (0, 1, 2))

    def test_six_deeds(self):
        still = made("worths 2", "house", "  ask find", "screen", "  cell x 0", "  show x", "  deed go", "    add x 1")
        found = self.told(still, 1, ("rests",), (deed("go"),) * 6)
        self.assertEqual([found[0], len(found[1]), found[1][-1][0]], ["none", 64, (0, 1, 2, 3, 4, 5)])
        self.assertEqual(self.told(made(*SAVE), 2, LOOKS, tuple(deed("pick", it) for it in (0, 0, 0, 2, 0, 2)))[0], "deeds")

    def test_many(self):
        self.assertEqual(self.told(TYPE, 1, LOOKS, (ONE, TWO))[0], "none")
        for many in (2, 3, 4):
            self.assertEqual(self.told(TYPE, many, LOOKS, (ONE, TWO))[0], "deeds")

    def test_drawn(self):
        count = {"deeds": 0, "none": 0}
        for seed, program in [*lean_programs(range(800, 840)), *answering_programs(range(840, 1040))]:
            draw = random.Random(seed)
            looks = tuple(sorted(draw.sample(LOOKS, draw.randint(1, 3))))
            deeds = drawn_deeds(draw, program, 4)
            count[self.told(program, draw.randint(1, 2), looks, deeds)[0]] += 1
        self.assertGreater(min(count.values()), 20)


class Shows(Told):
    DEEDS = (ONE, ONE, TWO)

    def test_any_look_by_which_the_story_is_wrong(self):
        found = needed(TYPE, 2, LOOKS, self.DEEDS)
        for look in LOOKS + ("never", "", None, 0, ("rests",)):
            # This story ends at a rest and at a moment that are wrong.
            self.shows(look in LOOKS, TYPE, 2, LOOKS, self.DEEDS, found[:2] + (look, (ONE, TWO, does(0), does(1), comes(1), comes(0)), found[4]))
        rising = made(*FIND[:7], "  take find rising", *FIND[7:])
        found = needed(rising, 2, LOOKS, (ONE, NONE))
        for look in LOOKS:
            self.shows(look == "moments", rising, 2, LOOKS, (ONE, NONE), found[:2] + (look,) + found[3:])
        found = needed(HOUSE, 2, LOOKS, (deed("flip", 1), deed("flip", 0)))
        for look in LOOKS:
            self.shows(look == "houses", HOUSE, 2, LOOKS, (deed("flip", 1), deed("flip", 0)), found[:2] + (look,) + found[3:])
        self.shows(False, TYPE, 2, ("rests",), self.DEEDS, needed(TYPE, 2, ("rests",), self.DEEDS)[:2] + ("moments",) + needed(TYPE, 2, ("rests",), self.DEEDS)[3:])

    def test_stories(self):
        found = needed(TYPE, 2, ("rests",), self.DEEDS)
        for story, wanted in (((ONE, TWO, does(1), comes(1), does(0), comes(0)), True), ((ONE, TWO, does(1), does(0), comes(1), comes(0)), True), ((ONE, TWO, does(0), comes(0), does(0), comes(0)), False),
                              ((ONE, TWO, does(1), comes(1)), False), (found[3][:-1], False), ((), False), ((ONE, TWO, ONE), False), ((TWO, ONE, does(1), comes(1), does(0), comes(0)), False),
                              ((ONE, ONE, TWO, does(1), comes(1), does(0), comes(0)), False), (list(found[3]), False), (None, False)):
            self.shows(wanted, TYPE, 2, ("rests",), self.DEEDS, found[:3] + (story, found[4]))

    def test_longer_stories(self):
        deeds = (deed("put", 0), deed("put", 1), deed("put", 2))
        program = made("worths 3", "house", "  cell n 0", "  ask put", "    set n it", "screen", "  cell x 0", "  show x", "  deed put upto 2", "    off put", "    ask put it")
        found = needed(program, 3, ("houses",), deeds)
        self.assertEqual([found[:3], len(found[3])], [("deeds", (0, 1), "houses"), 5])
        two = deeds[:2]
        for story in (two + (does(1), does(0), comes(0)), (two[0], does(0), comes(0), two[1], does(0), comes(0))):
            self.shows(is_wrong_by(program, 3, "houses", story, two), program, 3, ("houses",), deeds, found[:3] + (story, found[4]))
        found = needed(TYPE, 2, ("moments",), (ONE, NONE))
        self.assertEqual(len(found[3]), 4)
        for story in ((ONE, does(0), NONE, comes(0)), (ONE, does(0), NONE, does(1), comes(0)), (ONE, NONE, does(0), does(1), comes(1), comes(0))):
            self.shows(True, TYPE, 2, ("moments",), (ONE, NONE), found[:3] + (story, found[4]))

    def test_a_later_choice_than_the_first(self):
        found = needed(TYPE, 2, ("rests",), self.DEEDS)
        tables = [row for row in needed(TYPE, 2, ("rests",), (ONE, ONE))[1]]
        self.assertEqual(len(tables), 4)
        # Its rows would have to tell right tables of the first one, which there are none of.
        for numbers in ((1, 2), (0, 1, 2), (0, 1), (2,), (0,), (), (2, 0), (0, 0), (0, 3), [0, 2], (0, True), None):
            self.shows(False, TYPE, 2, ("rests",), self.DEEDS, ("deeds", numbers) + found[2:])
            self.shows(False, TYPE, 2, ("rests",), self.DEEDS, ("deeds", numbers) + found[2:4] + (found[4] + (((0, 2), found[4][-1][1]),),))
        self.shows(False, TYPE, 2, ("rests",), self.DEEDS, ("none", found[4]))
        self.shows(False, TYPE, 2, ("rests",), self.DEEDS, ("none", found[4] + tuple((numbers, found[4][-1][1]) for numbers in ((0, 2), (1, 2), (0, 1, 2)))))

    def test_its_word(self):
        for found in (needed(TYPE, 2, ("rests",), self.DEEDS), needed(made(*LAST), 2, ("rests",), (ONE, TWO))):
            for word in ("none", "deeds", "right", "None", "", None, 0, True):
                self.shows(word == found[0], TYPE if len(found) > 2 else made(*LAST), 2, ("rests",), self.DEEDS if len(found) > 2 else (ONE, TWO), (word,) + found[1:])

    def test_rows(self):
        for program, deeds in ((TYPE, self.DEEDS), (made(*LAST), (ONE, TWO))):
            found = needed(program, 2, ("moments", "rests"), deeds)
            rows = found[-1]
            for n in range(len(rows)):
                self.shows(False, program, 2, ("moments", "rests"), deeds, found[:-1] + (rows[:n] + rows[n + 1:],))
                self.shows(False, program, 2, ("moments", "rests"), deeds, found[:-1] + (rows[:n] + rows[n:n + 1] + rows[n:],))
                for m in range(n):
                    self.shows(False, program, 2, ("moments", "rests"), deeds, found[:-1] + (rows[:m] + (rows[n],) + rows[m + 1:n] + (rows[m],) + rows[n + 1:],))
                    other = (rows[n][0], rows[m][1])
                    value = found[:-1] + (rows[:n] + (other,) + rows[n + 1:],)
                    self.shows(judge(program, 2, ("moments", "rests"), deeds, value), program, 2, ("moments", "rests"), deeds, value)
                for row in ((rows[n][0],), rows[n] + ((),), list(rows[n]), (rows[n][0], list(rows[n][1])), (rows[n][0], rows[n][1][:1]), (rows[n][0], rows[n][1][::-1]), (rows[n][0], rows[n][1] * 2), None):
                    self.shows(False, program, 2, ("moments", "rests"), deeds, found[:-1] + (rows[:n] + (row,) + rows[n + 1:],))

    def test_greater_closed_tables(self):
        found = needed(TYPE, 2, ("rests",), self.DEEDS)
        rows = found[4]
        member = rows[1][1][0][0]
        far = (((), (2,), (), ()), ((), (2,)), 1)
        larger = (rows[1][0], (tuple(sorted(rows[1][1][0] + (far,))),))
        self.assertNotIn(far, rows[1][1][0])
        self.shows(True, TYPE, 2, ("rests",), self.DEEDS, found[:4] + (rows[:1] + (larger,) + rows[2:],))
        for other in (far[:2] + (0,), far[:2] + (2,), far[:2] + (True,), far[:2], (far[0], ((), (1,)), 1), far + (0,)):
            wrong = (rows[1][0], (tuple(sorted(rows[1][1][0] + (other,))),))
            self.shows(False, TYPE, 2, ("rests",), self.DEEDS, found[:4] + (rows[:1] + (wrong,) + rows[2:],))
        self.assertEqual(member, (((), (0,), (), ()), ((), (0,)), 0))

    def test_one_thing_otherwise(self):
        program = made("worths 2", *FIND[1:7], "  deed type upto 1", *FIND[8:])
        deeds = (deed("type", 1), deed("type", 0))
        found = needed(program, 2, ("rests",), deeds)
        count = 0
        for value in changed(found):
            count += 1
            if repr(value) != repr(found) and (count % 11 == 0 or value[:4] != found[:4]):
                self.shows(judge(program, 2, ("rests",), deeds, value), program, 2, ("rests",), deeds, value)
        self.assertGreater(count, 2000)

    def test_any(self):
        found = needed(TYPE, 2, ("rests",), self.DEEDS)
        for value in ANY:
            for told in (value, ("none", value), ("deeds", value), ("none", (value,)), ("none", (((), value),)), ("none", (((), (value,)),)), ("deeds", (0, 2), "rests", value, ()), ("deeds",) + (value,) * 4,
                         ("deeds", value) + found[2:], found[:2] + (value,) + found[3:], found[:3] + (value,) + found[4:], found[:4] + (value,), (value,) + found[1:]):
                self.shows(False, TYPE, 2, ("rests",), self.DEEDS, told)


class Errors(unittest.TestCase):
    def fails(self, error, value, *arguments):
        for call in (needed, lambda *rest: shows_needed(*rest, None)):
            with self.assertRaises(error) as caught:
                call(TYPE, *arguments)
            self.assertIs(caught.exception.value, value)

    def test_many(self):
        for value in (0, 5, -1, True, False, None, "1", (1,), [1], {1: 1}):
            self.fails(BadMany, value, value, ("rests",), ())

    def test_looks(self):
        for value in BAD_LOOKS + ANY:
            self.fails(BadLooks, value, 2, value, ())

    def test_deeds(self):
        bad = [value for value in ANY if value != ()] + [(deed("type", 3),), (deed("type", -1),), (deed("type", True),), (deed("find"),), (ONE, None), (ONE, does(0)), [ONE], (list(ONE),), (ONE[:2],), (("over",),), ONE]
        for value in bad + [(ONE,) * 7, (ONE,) * 8, (ONE,) * 9, (ONE, TWO) * 4]:
            self.fails(BadDeeds, value, 2, ("rests",), value)
        needed(made(*LAST), 1, ("rests",), (ONE,) * 6)

    def test_several_at_once(self):
        seven = (ONE,) * 7
        self.fails(BadMany, 0, 0, (), seven)
        self.fails(BadMany, 5, 5, ("rests",), seven)
        self.fails(BadLooks, (), 2, (), seven)
        self.fails(BadLooks, ("rest",), 2, ("rest",), None)
        self.fails(BadDeeds, seven, 2, ("rests",), seven)
        self.fails(BadDeeds, None, 2, ("rests",), None)

    def test_by_name(self):
        found = needed(program=TYPE, many=2, looks=("rests",), deeds=(ONE, TWO))
        self.assertEqual(repr(found), repr(needed(TYPE, 2, ("rests",), (ONE, TWO))))
        self.assertIs(shows_needed(program=TYPE, many=2, looks=("rests",), deeds=(ONE, TWO), value=found), True)

    def test_too_many(self):
        # Only stories of these deeds count, so it takes few members to be too many: choices in sequence, up to the first that ends it.
        wide = [deed(name, it) for name, it in (("one", 1), ("two", 2), ("three", 3), ("one", 2), ("two", 1))]
        program = made(*WIDE, "  show a", *WIDE_DEEDS)
        sizes = [len(needed(program, 4, ("moments",), tuple(wide[:n]))[1][-1][1][0]) for n in range(4)]
        self.assertEqual(sizes, sorted(set(sizes)))
        for most in sizes:
            for n in range(4):
                with mock.patch("lastasked.tables.MOST_MEMBERS", most):
                    biggest = max(len(row[1][0]) for row in needed(program, 4, ("moments",), tuple(wide[:n]))[1]) if sizes[n] <= most else most + 1
                    self.assertEqual(biggest > most, sizes[n] > most)
                    if biggest > most:
                        with self.assertRaises(TooMany) as caught:
                            needed(program, 4, ("moments",), tuple(wide[:n]))
                        self.assertEqual(caught.exception.number, most)

    def test_up_to_the_first_that_ends_it(self):
        # With all four deeds there would be more members, but two go wrong before.
        found = needed(TYPE, 2, ("rests",), (ONE, TWO, ONE, TWO))
        with mock.patch("lastasked.tables.MOST_MEMBERS", 12):
            self.assertEqual(needed(TYPE, 2, ("rests",), (ONE, TWO, ONE, TWO))[:3], found[:3])
            with self.assertRaises(TooMany):
                needed(made(*LAST), 2, ("rests",), (ONE, TWO, ONE, TWO))

    def test_what_is_handed_in_stays(self):
        looks, deeds = ("moments", "rests"), (ONE, TWO)
        needed(TYPE, 2, looks, deeds)
        self.assertEqual([looks, deeds, TYPE.text], [("moments", "rests"), (ONE, TWO), "\n".join(FIND)])


if __name__ == "__main__":
    unittest.main()
