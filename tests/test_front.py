"""Section 11: prices of guards beside how long a wrong picture can stand with them."""

import itertools
import random
import unittest
from unittest import mock

from lastasked.errors import BadLooks, BadMany, BadOffers, TooMany
from lastasked.fronts import front, shows_front
from lastasked.guards import guarded, with_guards
from lastasked.lasting import lasting
from tests.helper import comes, deed, does, made
from tests.searches import FIND, lean_programs, pairs_of
from tests.test_guarded import BAD_LOOKS, BAD_OFFERS, LOOKS, SMALL, choices, drawn_offers, is_table, is_wrong_by, look_at
from tests.test_lasting import judge as judge_lasting
from tests.test_rests import WIDE, WIDE_DEEDS
from tests.test_stands import ANY, changed

OFFERS = ((("off", "type", "find"), 2), (("take", "find", "last"), 1))
STORY = (deed("type", 1), deed("type", 0), does(0), does(1), comes(1), comes(0))


def points_of(right):
    """Those that no other one beats, of alike ones the first."""
    found = []
    for n, (price, number, choice) in enumerate(right):
        beaten = False
        for m, (cost, other, _) in enumerate(right):
            if m != n and cost <= price and other <= number and ((cost, other) != (price, number) or m < n):
                beaten = True
        if not beaten:
            found.append((price, number, choice))
    return tuple(sorted(found))


def judge(program, offers, many, looks, value):
    """A plain second judge."""
    if type(value) is not tuple or len(value) != 3 or value[0] != "front" or type(value[0]) is not str or type(value[2]) is not tuple:
        return False
    rows = choices(program, offers)
    if len(rows) != len(value[2]):
        return False
    right = []
    for (price, choice, other), row in zip(rows, value[2]):
        if type(row) is not tuple or len(row) != 2 or repr(row[0]) != repr(choice) or type(row[1]) is not tuple or len(row[1]) != 3:
            return False
        word, second, third = row[1]
        if word == "wrong":
            if second not in looks or not is_wrong_by(other, many, second, third):
                return False
            continue
        if word != "right" or type(second) is not tuple or len(second) != len(looks):
            return False
        if not all(is_table(other, many, look, table) for look, table in zip(looks, second)) or not judge_lasting(other, many, third, False):
            return False
        right.append((price, third[1], choice))
    return repr(value[1]) == repr(points_of(right))


class Told(unittest.TestCase):
    def told(self, program, offers, many, looks):
        found = front(program, offers, many, looks)
        rows, right = [], []
        for price, choice, other in choices(program, offers):
            results = [(look, look_at(other, many, look)) for look in looks]
            wrongs = [(look, result[1]) for look, result in results if result[0] == "wrong"]
            if wrongs:
                rows.append((choice, ("wrong",) + wrongs[0]))
            else:
                long = lasting(other, many, hands=False)
                rows.append((choice, ("right", tuple(result[1] for _, result in results), long)))
                right.append((price, long[1], choice))
        self.assertEqual(repr(found), repr(("front", points_of(right), tuple(rows))))
        self.assertIs(shows_front(program, offers, many, looks, found), True)
        return found

    def shows(self, wanted, program, offers, many, looks, value):
        self.assertIs(shows_front(program, offers, many, looks, value), wanted, value)
        self.assertIs(judge(program, offers, many, looks, value), wanted, value)


class Front(Told):
    def test_points(self):
        found = self.told(made(*FIND), OFFERS, 2, ("rests",))
        self.assertEqual(found[1], ((1, 1, (("take", "find", "last"),)), (2, 0, (("off", "type", "find"),))))
        self.assertEqual([(row[0], row[1][0]) for row in found[2]], [
            ((), "wrong"), ((("take", "find", "last"),), "right"), ((("off", "type", "find"),), "right"),
            ((("off", "type", "find"), ("take", "find", "last")), "right")])

    def test_one_that_another_one_beats(self):
        # What costs more, or as much, and has no smaller number.
        for prices, points in (((1, 1), [(1, 0)]), ((1, 2), [(1, 0)]), ((2, 1), [(1, 1), (2, 0)]), ((9, 8), [(8, 1), (9, 0)])):
            offers = ((("off", "type", "find"), prices[0]), (("take", "find", "last"), prices[1]))
            self.assertEqual([point[:2] for point in self.told(made(*FIND), offers, 2, ("rests",))[1]], points)

    def test_one_of_the_same_price_behind_it(self):
        # A refused guess stands for a while; without the guess nothing is ever shown that is not so.
        program = made("worths 3", "house", "  ask save", "    if it = 2", "      refuse", "screen", "  cell c 0", "  show c", "  deed pick upto 2",
                       "    ask save it guess c = it")
        back, drop = ("back", "c", "redone"), ("drop", 10)
        for prices, points in (((3, 3), [(3, -1, (drop,))]), ((3, 4), [(3, 1, (back,)), (4, -1, (drop,))]), ((4, 3), [(3, -1, (drop,))])):
            found = self.told(program, ((back, prices[0]), (drop, prices[1])), 2, ("rests",))
            self.assertEqual([row[1][0] for row in found[2]], ["wrong", "right", "right", "right"])
            self.assertEqual(list(found[1]), points)

    def test_of_alike_ones_the_first(self):
        program = made(*SMALL)
        offers = ((("off", "type", "find"), 2), (("send", "find", "one"), 1), (("send", "find", "resting"), 1), (("take", "find", "last"), 1),)
        found = self.told(program, offers, 2, ("rests",))
        for price, number, choice in found[1]:
            alike = [row[0] for row in found[2] if row[1][0] == "right" and row[1][2][1] == number
                     and sum(dict(offers)[guard] for guard in row[0]) == price]
            self.assertEqual(choice, alike[0])
        still = made("worths 2", "house", "  ask find", "screen", "  cell x 0", "  show x", "  deed go", "    ask find 0", "    add x 1")
        offers = ((("keep", "find", "only"), 1), (("order",), 1), (("take", "find", "last"), 1))
        self.assertEqual(self.told(still, offers, 1, LOOKS)[1], ((0, -1, ()),))

    def test_none_is_right(self):
        offers = ((("send", "find", "one"), 1), (("take", "find", "rising"), 1))
        found = self.told(made(*SMALL), offers, 2, ("moments",))
        self.assertEqual([found[1], [row[1][0] for row in found[2]]], [(), ["wrong"] * 4])

    def test_rows_for_each_choice(self):
        # Those behind a right one too, but none that is not let.
        offers = ((("send", "find", "one"), 1), (("take", "find", "last"), 2), (("take", "find", "rising"), 3))
        found = self.told(made(*SMALL), offers, 2, ("moments", "rests"))
        self.assertEqual([row[0] for row in found[2]], [row[1] for row in choices(made(*SMALL), offers)])
        self.assertEqual(len(found[2]), 6)
        self.assertEqual(guarded(made(*SMALL), offers, 2, ("moments", "rests"))[1:3], found[1][0][::2])

    def test_drawn(self):
        counts = {}
        for seed, program in lean_programs(range(1200, 1260)):
            draw = random.Random(seed)
            offers = drawn_offers(draw, program)
            if len(pairs_of(program, 2, 80)) > 80 or not offers:
                continue
            try:
                found = self.told(program, offers, 2, tuple(sorted(draw.sample(LOOKS, draw.randint(1, 2)))))
            except TooMany:
                continue
            counts[len(found[1])] = counts.get(len(found[1]), 0) + 1
        self.assertGreaterEqual(set(counts), {0, 1})

    def test_too_many(self):
        program = made(*WIDE, "  show a", *WIDE_DEEDS)
        for looks in (("moments",), ("rests",)):
            with self.assertRaises(TooMany) as caught:
                front(program, ((("take", "find", "last"), 1),), 2, looks)
            self.assertEqual(repr(caught.exception.number), "6000")
            self.assertIs(shows_front(program, ((("take", "find", "last"), 1),), 2, looks, ("front", (), ())), False)
        # Choices in their sequence: with the second one more members come.
        program = made(*SMALL)
        last = with_guards(program, (("take", "find", "last"),))
        members = len(pairs_of(last, 2))
        for most, fails in ((members - 1, True), (members, False)):
            with mock.patch("lastasked.tables.MOST_MEMBERS", most):
                if fails:
                    with self.assertRaises(TooMany):
                        front(program, ((("take", "find", "last"), 1),), 2, ("rests",))
                else:
                    self.assertEqual(len(front(program, ((("take", "find", "last"), 1),), 2, ("rests",))[1]), 1)


class Shows(Told):
    PROGRAM = made(*SMALL)

    def test_any_look_of_looks(self):
        found = front(self.PROGRAM, OFFERS, 2, LOOKS)
        for look, wanted in (("houses", True), ("moments", True), ("rests", True), ("rest", False), (None, False), (["rests"], False)):
            self.shows(wanted, self.PROGRAM, OFFERS, 2, LOOKS, found[:2] + ((((), ("wrong", look, STORY)),) + found[2][1:],))
        found = front(self.PROGRAM, OFFERS, 2, ("rests",))
        self.shows(False, self.PROGRAM, OFFERS, 2, ("rests",), found[:2] + ((((), ("wrong", "moments", STORY)),) + found[2][1:],))
        turn = (deed("type", 1), does(0), comes(0))
        self.shows(True, self.PROGRAM, OFFERS, 2, ("rests",), found[:2] + ((((), ("wrong", "rests", turn + turn + STORY)),) + found[2][1:],))
        for story in ((), turn, STORY[:-1], list(STORY), None):
            self.shows(False, self.PROGRAM, OFFERS, 2, ("rests",), found[:2] + ((((), ("wrong", "rests", story)),) + found[2][1:],))

    def test_rows(self):
        found = front(self.PROGRAM, OFFERS, 2, ("rests",))
        _, points, rows = found
        for value in (rows[1:], rows[:-1], rows + rows[-1:], rows[:1] + rows, rows[::-1], list(rows), (), rows[:1] + rows[2:3] + rows[1:2] + rows[3:],
                      rows[:1] + (list(rows[1]),) + rows[2:], rows[:1] + (rows[1][:1],) + rows[2:], rows[:1] + (rows[1] + (0,),) + rows[2:],
                      rows[:1] + ((rows[1][0], list(rows[1][1])),) + rows[2:], rows[:1] + ((rows[1][0], rows[0][1]),) + rows[2:],
                      ((), rows[1][1]) + rows[1:], (((), rows[1][1]),) + rows[1:]):
            self.shows(False, self.PROGRAM, OFFERS, 2, ("rests",), ("front", points, value))

    def test_tables(self):
        for looks in (("rests",), ("moments", "rests")):
            found = front(self.PROGRAM, OFFERS, 2, looks)
            (choice, (word, tables, long)), rest = found[2][1], found[2][2:]
            for value in ((), tables[:-1], tables + tables[:1], list(tables), tables[:-1] + (tables[-1][1:],), tables[:-1] + (tables[-1] + tables[-1][-1:],),
                          tables[:-1] + (tables[-1][::-1],), (None,), (tables,)):
                self.shows(False, self.PROGRAM, OFFERS, 2, looks, found[:2] + (found[2][:1] + ((choice, (word, value, long)),) + rest,))

    def test_lasting(self):
        found = front(self.PROGRAM, OFFERS, 2, ("rests",))
        (choice, (word, tables, long)), rest = found[2][1], found[2][2:]
        last = with_guards(self.PROGRAM, choice)
        # Greater heights that fit are let, what is told with hands is not.
        greater = long[:3] + (tuple(row[:2] + (row[2] if row[2] > -1 else 0,) for row in long[3]),)
        values = [lasting(last, 2), long[:3], long + (0,), list(long), ("most", 2) + long[2:], ("most", 0) + long[2:], long[:2] + ((),) + long[3:],
                  long[:3] + (long[3][1:],), long[:3] + (long[3][::-1],), None, greater]
        for value in values:
            told = found[:2] + (found[2][:1] + ((choice, (word, tables, value)),) + rest,)
            self.shows(judge(self.PROGRAM, OFFERS, 2, ("rests",), told), self.PROGRAM, OFFERS, 2, ("rests",), told)
        # Another story of the same number.
        self.assertEqual(long[1], 1)
        other = (deed("type", 1), does(0), comes(0), deed("type", 1), deed("type", 0), does(0), comes(0))
        told = found[:2] + (found[2][:1] + ((choice, (word, tables, long[:2] + (other,) + long[3:])),) + rest,)
        self.shows(True, self.PROGRAM, OFFERS, 2, ("rests",), told)

    def test_points(self):
        found = front(self.PROGRAM, OFFERS, 2, ("rests",))
        one, two = found[1]
        for value in ((), (one,), (two,), (two, one), [one, two], (one, one, two), (one, two, two), (list(one), two), ((True,) + one[1:], two),
                      (one[:1] + (True,) + one[2:], two), (one, (2, False) + two[2:]), (one[:2], two), (one, two + (0,)), (one, (3, 0) + two[2:]),
                      (one, two, (3, 0, (("off", "type", "find"), ("take", "find", "last")))), None, "", (one, (2, 0, list(two[2])))):
            self.shows(False, self.PROGRAM, OFFERS, 2, ("rests",), ("front", value) + found[2:])

    def test_a_dearer_choice(self):
        offers = ((("off", "type", "find"), 1), (("send", "find", "resting"), 1), (("take", "find", "last"), 1))
        found = front(self.PROGRAM, offers, 2, ("rests",))
        right = {row[0]: row[1][2][1] for row in found[2] if row[1][0] == "right"}
        self.assertEqual(found[1], ((1, 0, (("off", "type", "find"),)),))
        for choice, number in right.items():
            if choice != found[1][0][2]:
                self.shows(False, self.PROGRAM, offers, 2, ("rests",), ("front", ((len(choice), number, choice),), found[2]))

    def test_for_another_many_or_other_looks(self):
        found = front(self.PROGRAM, OFFERS, 2, ("rests",))
        self.shows(False, self.PROGRAM, OFFERS, 1, ("rests",), found)
        self.shows(False, self.PROGRAM, OFFERS, 3, ("rests",), found)
        self.shows(False, self.PROGRAM, OFFERS, 2, ("moments",), found)
        self.shows(True, self.PROGRAM, OFFERS, 2, ("houses",), found[:2] + (
            (((), ("wrong", "houses", found[2][0][1][2])),) + found[2][1:],))

    def test_one_thing_otherwise(self):
        still = made("worths 2", "house", "  ask find", "screen", "  cell x 0", "  show x", "  deed go", "    ask find 0", "    add x 1")
        offers = ((("take", "find", "last"), 1),)
        found = front(still, offers, 1, ("rests",))
        told = repr(found)
        for value in itertools.islice(changed(found), 0, None, 5):
            if repr(value) != told:
                self.shows(judge(still, offers, 1, ("rests",), value), still, offers, 1, ("rests",), value)

    def test_any(self):
        for value in ANY:
            for told in (value, ("front", value, ()), ("front", (), value), ("front", (), (value,) * 4), ("front", (), (((), value),) * 4),
                         ("front", (), (((), ("wrong", value, STORY)),) * 4), ("front", (), (((), ("right", value, value)),) * 4), (value, (), ())):
                self.shows(False, self.PROGRAM, OFFERS, 2, ("rests",), told)

    def test_by_name(self):
        found = front(program=self.PROGRAM, offers=OFFERS, many=2, looks=("rests",))
        self.assertIs(shows_front(program=self.PROGRAM, offers=OFFERS, many=2, looks=("rests",), value=found), True)


class Errors(unittest.TestCase):
    PROGRAM = made(*SMALL)

    def fails(self, error, value, *arguments):
        for call in (front, lambda *rest: shows_front(*rest, None)):
            with self.assertRaises(error) as caught:
                call(self.PROGRAM, *arguments)
            self.assertIs(caught.exception.value, value)

    def test_each_alone(self):
        for value in BAD_OFFERS:
            self.fails(BadOffers, value, value, 1, ("rests",))
        for value in (0, 5, True, None, "1", (1,)):
            self.fails(BadMany, value, OFFERS, value, ("rests",))
        for value in BAD_LOOKS:
            self.fails(BadLooks, value, OFFERS, 1, value)

    def test_several_at_once(self):
        self.fails(BadOffers, None, None, 0, ())
        self.fails(BadMany, True, OFFERS, True, ())
        self.fails(BadLooks, (), OFFERS, 1, ())

    def test_what_is_handed_in_stays(self):
        text = self.PROGRAM.text
        self.assertEqual(repr(front(self.PROGRAM, OFFERS, 1, ("rests",))), repr(front(self.PROGRAM, OFFERS, 1, ("rests",))))
        self.assertEqual([self.PROGRAM.text, OFFERS], [text, ((("off", "type", "find"), 2), (("take", "find", "last"), 1))])


if __name__ == "__main__":
    unittest.main()
