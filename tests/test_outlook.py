"""Section 15: what can be shown if hands rest, beside a plain search."""

import random
import unittest
from unittest import mock

from lastasked.errors import NoMove, TooMany
from lastasked.keeper import Keeper, shows_outlook
from lastasked.moves import moves
from lastasked.stands import first_stand, is_stand, shown
from tests.helper import comes, deed, does, made
from tests.marks import ends_from, rest_by, stands_by_moves
from tests.passages import drawn_programs
from tests.searches import FIND
from tests.test_keeper import LAST, TYPE, all_seen, kept
from tests.test_stands import ANY, changed
from tests.test_steady import UNSURE, answering_programs, are_labels

TWO = (deed("type", 1), deed("type", 2))


def things(keeper):
    """What can be shown, None ahead of all others."""
    found = ends_from(keeper.program, keeper.stand, {})
    return sorted(found, key=lambda shows: (shows is not None, shows or ()))


def judge(keeper, value):
    """A plain second judge."""
    program, many = keeper.program, keeper.many
    if type(value) is not tuple or len(value) != 2:
        return False
    if value[0] == "sure":
        return are_labels(program, many, value[1], keeper.stand, False)
    wanted = things(keeper)
    if value[0] != "open" or len(wanted) < 2 or type(value[1]) is not tuple or len(value[1]) != len(wanted):
        return False
    for row, shows in zip(value[1], wanted):
        if type(row) is not tuple or len(row) != 2 or repr(row[0]) != repr(shows):
            return False
        rest = rest_by(program, keeper.stand, many, row[1])
        if rest is None or shown(program, rest) != shows:
            return False
    return True


class Told(unittest.TestCase):
    def told(self, keeper):
        found, wanted = keeper.outlook(), things(keeper)
        if len(wanted) == 1:
            stands = stands_by_moves(keeper.program, keeper.many, keeper.stand, deeds=False)
            self.assertEqual(repr(found), repr(("sure", tuple((stand, wanted[0]) for stand in sorted(stands)))))
        else:
            self.assertEqual([type(found), len(found), found[0], type(found[1])], [tuple, 2, "open", tuple])
            self.assertEqual(repr([row[0] for row in found[1]]), repr(wanted))
        self.shows(True, keeper, found)
        return found

    def shows(self, wanted, keeper, value):
        self.assertIs(shows_outlook(keeper, value), wanted, value)
        self.assertIs(judge(keeper, value), wanted, value)


class Outlook(Told):
    def test_at_a_rest(self):
        self.assertEqual(self.told(Keeper(TYPE, 2)), ("sure", ((first_stand(TYPE), (0,)),)))

    def test_sure_and_open(self):
        self.assertEqual(self.told(kept(TYPE, 2, TWO[0]))[0], "sure")
        self.assertEqual([row[0] for row in self.told(kept(TYPE, 2, *TWO))[1]], [(1,), (2,)])
        self.assertEqual(self.told(kept(LAST, 2, *TWO))[0], "sure")
        self.assertEqual([row[0] for row in self.told(kept(TYPE, 3, *TWO, deed("type")))[1]], [(0,), (1,), (2,)])
        # As answers come it is settled.
        keeper = kept(TYPE, 2, *TWO, does(1), comes(1))
        self.assertEqual(self.told(keeper)[0], "sure")
        self.assertEqual({label for _, label in keeper.outlook()[1]}, {(1,)})

    def test_labels(self):
        keeper = kept(TYPE, 2, TWO[0])
        task = ("find", 1, "out", 0, "live", ())
        self.assertEqual(self.told(keeper), ("sure", ((((), (0,), (), (("find", 1, "answered", 1, "live", ()),)), (1,)), (((), (0,), (), (task,)), (1,)), (((), (1,), (), ()), (1,)))))

    def test_none_ahead_of_all_others(self):
        keeper = kept(UNSURE, 2, deed("type", 1), deed("type", 0))
        found = self.told(keeper)
        self.assertEqual([row[0] for row in found[1]], [None, (0,)])
        both = made(*FIND[:7], "  unsure x = 1", *FIND[7:])
        found = self.told(kept(both, 3, deed("type", 2), deed("type", 1), deed("type", 0)))
        self.assertEqual([row[0] for row in found[1]], [None, (0,), (2,)])
        never = made(*FIND[:7], "  unsure x = 0", "  unsure x = 1", *FIND[7:])
        self.assertEqual({label for _, label in self.told(kept(never, 2, deed("type", 1)))[1]}, {None})
        self.assertEqual({label for _, label in self.told(kept(never, 2, deed("type", 1), deed("type", 0)))[1]}, {None})

    def test_courses(self):
        keeper = kept(TYPE, 3, *TWO, deed("type"))
        for shows, course in self.told(keeper)[1]:
            other = keeper.copy()
            for move in course:
                other.do(move)
            self.assertEqual([other.shown, other.stand[3]], [shows, ()])
            self.assertFalse([move for move in course if move[0] == "deed"])

    def test_courses_of_one_move(self):
        keeper = kept(made(*FIND, "    off find"), 2, *TWO, does(0), does(1))
        self.assertEqual(self.told(keeper), ("open", (((1,), (comes(0),)), ((2,), (comes(1),)))))
        self.shows(False, keeper, ("open", (((1,), (comes(1),)), ((2,), (comes(0),)))))

    def test_behind_an_exchange(self):
        newer = made(*FIND, "  over", "    ask find 2")
        keeper = kept(LAST, 2, deed("type", 1))
        keeper.exchange(newer)
        self.assertEqual([row[0] for row in self.told(keeper)[1]], [(1,), (2,)])
        keeper.undo()
        self.assertEqual(self.told(keeper)[0], "sure")

    def test_drawn(self):
        count = {"sure": 0, "open": 0}
        for seed, program in answering_programs(range(5500, 5580)):
            draw = random.Random(seed)
            keeper = Keeper(program, 3)
            for _ in range(10):
                keeper.do(draw.choice([move for move in keeper.moves() if move[0] == "deed"] or keeper.moves()) if draw.random() < 0.5 else draw.choice(keeper.moves()))
                count[self.told(keeper)[0]] += 1
        self.assertGreater(min(count.values()), 30)
        for seed in range(5600, 5620):
            programs, draw = drawn_programs(seed), random.Random(seed)
            keeper = Keeper(programs[0], 2)
            for _ in range(4):
                keeper.do(draw.choice(keeper.moves()))
            try:
                keeper.exchange(programs[1])
            except NoMove:
                continue
            self.told(keeper)

    def test_too_many(self):
        # Only the stands to which moves that are no deeds lead are counted.
        keeper = kept(TYPE, 3, *TWO, deed("type"))
        wanted = len(stands_by_moves(TYPE, 3, keeper.stand, deeds=False))
        before = all_seen(keeper)
        found = keeper.outlook()
        for most in (wanted - 1, wanted):
            with mock.patch("lastasked.tables.MOST_MEMBERS", most):
                if most < wanted:
                    with self.assertRaises(TooMany) as caught:
                        keeper.outlook()
                    self.assertEqual(caught.exception.number, most)
                else:
                    self.assertEqual(keeper.outlook(), found)
                self.assertIs(shows_outlook(keeper, found), True)
        self.assertEqual(all_seen(keeper), before)

    def test_really_too_many(self):
        # A deed of each asks two things; what comes asks for more, and the house tells the sequences apart.
        program = made("worths 4", "house", "  cell n 0", "  cell m 0", "  ask one", "    add n 1", "    add m n", "    answer m", "  ask two", "    add m n", "    add n m", "    answer n", "  ask three", "    add n 3", "    add m 1",
                       "    answer m", "screen", "  cell a 0", "  cell b 0", "  cell c 0", "  cell d 0", "  show a", "  deed go upto 3", "    ask one it", "    ask two it", "  answer one", "    add a it", "    ask three it",
                       "  answer two", "    add b it", "    ask three it", "  answer three", "    add c it", "    add d c")
        keeper = kept(program, 4, deed("go", 1), deed("go", 2))
        with self.assertRaises(TooMany) as caught:
            keeper.outlook()
        self.assertEqual(repr(caught.exception.number), "6000")

    def test_by_name(self):
        keeper = kept(TYPE, 2, *TWO)
        self.assertIs(shows_outlook(keeper=keeper, value=keeper.outlook()), True)


class Shows(Told):
    def test_open(self):
        keeper = kept(TYPE, 2, *TWO)
        rows = keeper.outlook()[1]
        one, two = rows
        for other in (rows[:1], rows[1:], rows[::-1], rows * 2, (one, one), (one, two, two), list(rows), (list(one), two), (one[:1], two), (one + ((),), two), ((one[0], two[1]), (two[0], one[1])), (one, (two[0], one[1])), (), ((None, one[1]),) + rows,
                      ((one[0], list(one[1])), two), ((list(one[0]), one[1]), two), (((True,), one[1]), two), ((one[0][0], one[1]), two), ((one[0], one[1][:-1]), two), ((one[0], ()), two), ((one[0], one[1] + (does(0),)), two),
                      ((one[0], TWO[:1] + one[1]), two), ((one[0], one[1] + TWO[:1]), two), (((0,), one[1]), one, two)):
            self.shows(False, keeper, ("open", other))
        # Other courses that lead there.
        self.shows(True, keeper, ("open", (((1,), (does(1), comes(1), does(0), comes(0))), ((2,), (does(0), comes(0), does(0), comes(0))))))
        self.shows(True, keeper, ("open", (((1,), (does(0), does(1), comes(1), comes(0))), ((2,), (does(1), does(0), comes(0), comes(0))))))
        for word in ("sure", "Open", "", None, 0):
            self.shows(False, keeper, (word, rows))
        self.shows(False, keeper, ["open", rows])
        self.shows(False, keeper, ("open", rows, ()))
        self.shows(False, keeper, ("open",))

    def test_open_where_it_is_sure(self):
        keeper = kept(TYPE, 2, TWO[0])
        self.shows(False, keeper, ("open", (((1,), (does(0), comes(0))),)))
        self.shows(False, keeper, ("open", (((0,), ()), ((1,), (does(0), comes(0))))))
        self.shows(False, keeper, ("open", ()))
        self.shows(False, Keeper(TYPE, 1), ("open", (((0,), ()),)))

    def test_sure_where_it_is_open(self):
        keeper = kept(TYPE, 2, *TWO)
        stands = sorted(stands_by_moves(TYPE, 2, keeper.stand, deeds=False))
        for label in ((0,), (1,), (2,), None):
            self.shows(False, keeper, ("sure", tuple((stand, label) for stand in stands)))

    def test_labels(self):
        keeper = kept(LAST, 2, *TWO)
        labels = keeper.outlook()[1]
        for n in range(len(labels)):
            self.shows(False, keeper, ("sure", labels[:n] + labels[n + 1:]))
            self.shows(False, keeper, ("sure", labels[:n] + labels[n:n + 1] + labels[n:]))
            for label in ((0,), (1,), None, 2, [2], (True,), (2, 2), ()):
                self.shows(False, keeper, ("sure", labels[:n] + ((labels[n][0], label),) + labels[n + 1:]))
        self.shows(False, keeper, ("sure", labels[::-1]))
        self.shows(False, keeper, ("sure", list(labels)))
        self.shows(False, keeper, ("sure", ()))

    def test_more_labels(self):
        # Any that are closed and have the present stand: deeds need lead nowhere.
        keeper = kept(LAST, 2, *TWO)
        labels = keeper.outlook()[1]
        first = (first_stand(LAST), (0,))
        self.shows(True, keeper, ("sure", tuple(sorted(labels + (first,)))))
        before = kept(LAST, 2, TWO[0])
        both = dict(labels + before.outlook()[1])
        self.shows(True, keeper, ("sure", tuple(sorted(both.items()))))
        self.shows(True, before, ("sure", tuple(sorted(both.items()))))
        self.shows(False, Keeper(LAST, 2), ("sure", tuple(sorted(both.items()))))
        self.shows(False, keeper, before.outlook())
        larger = 0
        for seed, program in answering_programs(range(5650, 5690)):
            draw = random.Random(seed)
            keeper = Keeper(program, 2)
            for _ in range(4):
                keeper.do(draw.choice(keeper.moves()))
            found = keeper.outlook()
            if found[0] == "open":
                continue
            others = [stand for stand, _ in found[1] for stand in changed(stand) if is_stand(program, stand)]
            for stand in draw.sample(others, min(3, len(others))):
                more, known = dict(found[1]), {}
                for other in stands_by_moves(program, 2, stand, deeds=False):
                    more[other] = draw.choice(sorted(ends_from(program, other, known), key=repr))
                value = ("sure", tuple(sorted(more.items(), key=lambda row: row[0])))
                wanted = judge(keeper, value)
                self.shows(wanted, keeper, value)
                larger += wanted and len(more) > len(found[1])
        self.assertGreater(larger, 20)

    def test_one_thing_otherwise(self):
        for keeper in (kept(TYPE, 2, *TWO), kept(TYPE, 1, TWO[0]), kept(UNSURE, 2, deed("type", 1), deed("type", 0))):
            found = keeper.outlook()
            for value in changed(found):
                if repr(value) != repr(found):
                    self.shows(judge(keeper, value), keeper, value)

    def test_any(self):
        for keeper in (kept(TYPE, 2, *TWO), kept(TYPE, 1, TWO[0])):
            for value in ANY:
                for told in (value, ("sure", value), ("open", value), ("sure", (value,)), ("open", (value, value)), ("sure", ((value, value),)), ("sure", ((keeper.stand, value),)), ("open", (((1,), value), ((2,), value))), (value, value)):
                    self.shows(False, keeper, told)

    def test_what_is_not_possible_any_more(self):
        keeper = kept(TYPE, 2, *TWO)
        found = keeper.outlook()
        keeper.do(does(0))
        self.shows(False, keeper, found)
        self.assertFalse(moves(TYPE, keeper.stand, 2) == ())


if __name__ == "__main__":
    unittest.main()
