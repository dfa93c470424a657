"""Section 12: whether it is settled what will be shown as soon as hands rest, beside a plain search."""

import random
import unittest
from unittest import mock

from lastasked.errors import BadMany, BadText, TooMany
from lastasked.moves import after, moves
from lastasked.programs import Program
from lastasked.stands import first_stand, is_stand, shown
from lastasked.steady import shows_steady, steady
from tests.helper import behind, comes, deed, does, made
from tests.marks import ends_from, rest_by, stands_by_moves
from tests.searches import FIND, Lean, is_story
from tests.test_rests import THREE, WIDE, WIDE_DEEDS
from tests.test_stands import ANY, changed, second_is_stand

TYPE = made(*FIND)
LAST = made(*FIND[:7], "  take find last", *FIND[7:])
BOX = made("worths 2", "house", "  ask find", "    answer it", "screen", "  cell x 0", "  show x", "  deed type", "    ask find 1", "  answer find", "    set x it")
# Where two answers come the other way about the screen is unsure.
UNSURE = made("worths 3", "house", "  ask find", "    answer it", "screen", "  cell x 0", "  cell want 0", "  show x", "  unsure x = 2", "  deed type upto 1",
              "    set want it", "    ask find it", "  answer find", "    if asked = want", "      set x it", "    else", "      set x 2")


def judge(program, many, value):
    """A plain second judge."""
    if type(value) is not tuple or len(value) not in (2, 4) or value[0] != ("steady" if len(value) == 2 else "parts"):
        return False
    if len(value) == 4:
        if not is_story(program, many, value[1]):
            return False
        stand = behind(program, *value[1])
        one, other = rest_by(program, stand, many, value[2]), rest_by(program, stand, many, value[3])
        return None not in (one, other) and shown(program, one) != shown(program, other)
    return are_labels(program, many, value[1], first_stand(program), True)


def are_labels(program, many, value, first, deeds):
    """A plain second judge of labels that have the first stand; without deeds they need not be closed by these."""
    if type(value) is not tuple or not all(type(row) is tuple and len(row) == 2 and second_is_stand(program.text, row[0]) for row in value):
        return False
    stands = [row[0] for row in value]
    labels = dict(value)
    if stands != sorted(labels) or first not in labels:
        return False
    for stand, label in value:
        if not stand[3] and repr(label) != repr(shown(program, stand)):
            return False
        for move in moves(program, stand, many):
            later = after(program, stand, move)
            if move[0] == "deed" and deeds and later not in labels:
                return False
            if move[0] != "deed" and (later not in labels or repr(labels[later]) != repr(label)):
                return False
    return True


class Told(unittest.TestCase):
    def told(self, program, many):
        found = steady(program, many)
        stands, known = stands_by_moves(program, many), {}
        parts = any(len(ends_from(program, stand, known)) > 1 for stand in stands)
        self.assertEqual(found[0], "parts" if parts else "steady", program.text)
        if parts:
            self.assertEqual([type(found), len(found)] + [type(part) for part in found[1:]], [tuple, 4, tuple, tuple, tuple])
        else:
            self.assertEqual(repr(found), repr(("steady", tuple((stand, *known[stand]) for stand in sorted(stands)))))
        self.shows(True, program, many, found)
        return found

    def shows(self, wanted, program, many, value):
        self.assertIs(shows_steady(program, many, value), wanted, value)
        self.assertIs(judge(program, many, value), wanted, value)


class Steady(Told):
    def test_many(self):
        for many in (1, 2, 3, 4):
            self.assertEqual(self.told(TYPE, many)[0], "steady" if many == 1 else "parts")
            self.assertEqual(self.told(LAST, many)[0], "steady")
        # Only three answers in one sequence show it.
        self.assertEqual([self.told(THREE, many)[0] for many in (1, 2, 3)], ["steady", "steady", "parts"])

    def test_labels(self):
        found = self.told(BOX, 1)
        tasks = [((), (("find", 1, "answered", 1, "live", ()),), (("find", 1, "out", 0, "live", ()),))[n] for n in range(3)]
        self.assertEqual(found, ("steady", tuple((((), (x,), (), task), ((x if not task else 1),)) for x in (0, 1) for task in tasks)))

    def test_a_deed_leads_to_a_stand_that_parts(self):
        # Each task alone is settled, two of them are not; with redone guesses it is settled again for what is answered alike.
        self.assertEqual(self.told(TYPE, 2)[0], "parts")
        found = steady(TYPE, 2)
        self.assertEqual(len([move for move in found[1] if move[0] == "deed"]) >= 2, True)
        # Three deeds are needed here, and what two lead to has labels by itself.
        self.assertEqual(len(self.told(THREE, 3)[1]) >= 3, True)

    def test_courses_end_at_a_rest(self):
        for program, many in ((TYPE, 2), (TYPE, 3), (UNSURE, 2)):
            _, story, one, other = self.told(program, many)
            stand = behind(program, *story)
            self.assertEqual([behind(program, *course, stand=stand)[3] for course in (one, other)], [(), ()])
            self.assertFalse([move for move in one + other if move[0] == "deed"])

    def test_unsure_lines(self):
        found = self.told(UNSURE, 2)
        self.assertEqual(found[0], "parts")
        # None beside a picture, and beside another one alike.
        always = made(*FIND[:7], "  unsure x = 0", "  unsure x = 1", *FIND[7:])
        self.assertEqual(self.told(always, 2)[0], "parts")
        never = made("worths 2", *FIND[1:7], "  unsure x = 0", "  unsure x = 1", "  deed type upto 1", *FIND[8:])
        found = self.told(never, 3)
        self.assertEqual([found[0], {label for _, label in found[1]}], ["steady", {None}])
        one = made("worths 2", *FIND[1:7], "  unsure x = 1", "  deed type upto 1", *FIND[8:])
        self.assertEqual({label for _, label in self.told(one, 1)[1]}, {None, (0,)})
        self.assertEqual(self.told(one, 2)[0], "parts")

    def test_what_is_not_shown(self):
        hidden = made(*FIND[:6], "  cell y 0", "  show y", *FIND[7:])
        self.assertEqual(self.told(hidden, 2)[0], "steady")
        self.assertEqual({label for _, label in steady(hidden, 2)[1]}, {(0,)})

    def test_the_house(self):
        # In what sequence the house does what is asked is the course's, unless it is in order.
        rows = ("worths 2", "house", "  cell n 0", "  ask put", "    set n it", "  ask get", "    answer n", "screen", "  cell x 0", "  show x", "  deed both",
                "    ask put 1", "    ask get 0", "  answer get", "    set x it", "  deed clear", "    set x 0")
        rows = rows[:10] + rows[15:] + rows[10:15]
        self.assertEqual(self.told(made(*rows), 2)[0], "parts")
        self.assertEqual(self.told(made(*rows[:2], "  in order", *rows[2:]), 2)[0], "steady")

    def test_off(self):
        # What is off may still be done, or be lost.
        rows = ("worths 2", "house", "  cell n 0", "  ask put", "    set n 1", "  ask get", "    answer n", "screen", "  cell x 0", "  show x", "  deed go",
                "    ask put 1", "    off put", "    ask get 0", "  answer get", "    set x it")
        self.assertEqual(self.told(made(*rows), 2)[0], "parts")

    def test_nothing_is_asked(self):
        still = made("worths 2", "house", "  ask find", "screen", "  cell x 0", "  show x", "  deed go", "    add x 1")
        self.assertEqual(self.told(still, 4), ("steady", ((((), (0,), (), ()), (0,)), (((), (1,), (), ()), (1,)))))

    def test_drawn(self):
        count = {"steady": 0, "parts": 0}
        for seed, program in answering_programs(range(600, 700)):
            for many in (1, 2):
                with mock.patch("lastasked.tables.MOST_MEMBERS", 700):
                    try:
                        steady(program, many)
                    except TooMany:
                        continue
                count[self.told(program, many)[0]] += 1
        self.assertGreater(min(count.values()), 10)
        for seed, program in answering_programs(range(700, 712)):
            if len(stands_by_moves(program, 2)) < 100:
                self.told(program, 3)


class Answering(Lean):
    """Draws programs in which answers are shown as they come."""

    def house_line(self, left):
        return super().house_line(left) if self.draw.random() < 0.4 else ["answer", "it"]

    def screen_lines(self):
        lines = super().screen_lines()
        for words, below in lines:
            if words[0] == "deed" and len(words) > 2 and below[0][0][0] != "if":
                below[0] = (["ask", self.asks[0], "it"], [])
            if words[0] == "show":
                words[1:] = self.cells[:1]
        overs = [line for line in lines if line[0] == ["over"]]
        found = [line for line in lines if line[0][0] not in ("answer", "refused", "over")]
        for ask in self.asks:
            handler = [line for line in lines if line[0] == ["answer", ask]]
            if handler and self.draw.random() < 0.5:
                found += handler
            else:
                found.append((["answer", ask], [(["set", self.cells[0], "it"], [])]))
            found += [line for line in lines if line[0] == ["refused", ask]]
        return found + overs


def answering_programs(seeds):
    """(seed, program) of those that are programs: a deed may ask once too often by what is put in."""
    for seed in seeds:
        try:
            yield seed, Program(Answering(random.Random(seed)).text())
        except BadText:
            continue


class Shows(Told):
    def test_labels_left_out_or_more(self):
        for program, many in ((BOX, 2), (LAST, 1)):
            labels = steady(program, many)[1]
            for n in range(0, len(labels), 3):
                self.shows(False, program, many, ("steady", labels[:n] + labels[n + 1:]))
                self.shows(False, program, many, ("steady", labels[:n] + labels[n:n + 1] + labels[n:]))
                if n + 1 < len(labels):
                    self.shows(False, program, many, ("steady", labels[:n] + labels[n:n + 2][::-1] + labels[n + 2:]))
            self.shows(False, program, many, ("steady", labels[::-1]))
            self.shows(False, program, many, ("steady", ()))
            self.shows(False, program, many, ("steady", list(labels)))
            self.shows(False, program, many, ["steady", labels])
            self.shows(False, program, many, ("parts", labels))
            self.shows(False, program, many, ("steady", labels, labels))

    def test_other_labels(self):
        labels = steady(BOX, 1)[1]
        for n, (stand, label) in enumerate(labels):
            for other in ((1 - label[0],), None, (), label * 2, list(label), (bool(label[0]),), (str(label[0]),), label[0], {0: label}) + ANY:
                self.shows(repr(other) == repr(label), BOX, 1, ("steady", labels[:n] + ((stand, other),) + labels[n + 1:]))
        # All of them turned about.
        self.shows(False, BOX, 1, ("steady", tuple((stand, (1 - label[0],)) for stand, label in labels)))
        self.shows(False, BOX, 1, ("steady", tuple((label, stand) for stand, label in labels)))
        self.shows(False, BOX, 1, ("steady", tuple(stand for stand, _ in labels)))
        self.shows(False, BOX, 1, ("steady", tuple((stand, (label,)) for stand, label in labels)))

    def test_labels_where_it_parts(self):
        stands, known = stands_by_moves(TYPE, 2), {}
        for pick in (min, max):
            self.shows(False, TYPE, 2, ("steady", tuple((stand, pick(ends_from(TYPE, stand, known))) for stand in sorted(stands))))

    def test_more_stands_that_are_closed(self):
        for many in (1, 2, 3):
            for n in (1, 2, 3):
                self.shows(n >= many, BOX, many, steady(BOX, n))
        larger = 0
        for seed, program in answering_programs(range(720, 790)):
            found, draw = steady(program, 1), random.Random(seed)
            if found[0] == "parts" or len(found[1]) > 60:
                continue
            others = [stand for stand, _ in found[1] for stand in changed(stand) if is_stand(program, stand)]
            for stand in draw.sample(others, min(4, len(others))):
                more, known = dict(found[1]), {}
                for other in stands_by_moves(program, 1, stand):
                    more[other] = draw.choice(sorted(ends_from(program, other, known), key=repr))
                if len(more) < 200:
                    value = ("steady", tuple(sorted(more.items(), key=lambda row: row[0])))
                    wanted = judge(program, 1, value)
                    self.shows(wanted, program, 1, value)
                    larger += wanted and len(more) > len(found[1])
        self.assertGreater(larger, 20)

    def test_courses(self):
        _, story, one, other = steady(TYPE, 2)
        self.shows(True, TYPE, 2, ("parts", story, other, one))
        for courses in ((one, one), (other, other), (one[:-1], other), (one, other[:-1]), ((), other), (one, ()), (one[1:], other), (one + one, other),
                        (one + (deed("type"),), other), ((deed("type"),) + one, other), (list(one), other), (one, list(other)), (one, None), (0, other)):
            self.shows(False, TYPE, 2, ("parts", story) + courses)
        # Longer ones: the first course behind a longer story, and another way that shows the same.
        turn = (deed("type"), does(0), comes(0))
        self.shows(True, TYPE, 2, ("parts", turn * 3 + story, one, other))
        self.shows(False, TYPE, 2, ("parts", story + turn, one, other))
        self.shows(False, TYPE, 2, ("parts", story[:-1], one, other))
        self.shows(False, TYPE, 1, ("parts", story, one, other))
        self.shows(False, TYPE, 2, ("parts", (), (), ()))
        self.shows(False, TYPE, 2, ("parts", list(story), one, other))
        self.shows(False, TYPE, 2, ("parts", story, one))
        self.shows(False, TYPE, 2, ("parts", story, one, other, ()))
        self.shows(False, TYPE, 2, ("steady", story, one, other))

    def test_a_deed_in_a_course(self):
        # A deed that leaves all as it is, but is one.
        program = made(*FIND[:9], "  deed nothing", "    set x x", *FIND[9:])
        _, story, one, other = steady(program, 2)
        self.shows(True, program, 2, ("parts", story, one, other))
        for n in range(len(one) + 1):
            self.shows(False, program, 2, ("parts", story, one[:n] + (deed("nothing"),) + one[n:], other))
            self.shows(False, program, 2, ("parts", story, other, one[:n] + (deed("nothing"),) + one[n:]))
        self.shows(True, program, 2, ("parts", story + (deed("nothing"),), one, other))

    def test_courses_of_one_move(self):
        # What comes first lets all others be gone.
        program = made(*FIND, "    off find")
        story = (deed("type", 1), deed("type", 2), does(0), does(1))
        for one, other, wanted in (((comes(0),), (comes(1),), True), ((comes(1),), (comes(0),), True), ((comes(0),), (comes(0),), False), ((comes(0),), (), False), ((), (comes(1),), False),
                                   ((comes(0), comes(0)), (comes(1),), False), ((comes(2),), (comes(0),), False)):
            self.shows(wanted, program, 2, ("parts", story, one, other))
        self.assertEqual(self.told(program, 2)[0], "parts")

    def test_none_beside_a_picture(self):
        _, story, one, other = steady(UNSURE, 2)
        stand = behind(UNSURE, *story)
        ends = {shown(UNSURE, behind(UNSURE, *course, stand=stand)) for course in (one, other)}
        self.assertIn(None, ends)
        self.shows(True, UNSURE, 2, ("parts", story, one, other))
        both = made("worths 2", *FIND[1:7], "  unsure x = 0", "  unsure x = 1", "  deed type upto 1", *FIND[8:])
        story = (deed("type", 0), deed("type", 1))
        self.shows(False, both, 2, ("parts", story, (does(0), comes(0), does(0), comes(0)), (does(1), comes(1), does(0), comes(0))))

    def test_one_thing_otherwise(self):
        for program, many in ((BOX, 1), (TYPE, 2)):
            found = steady(program, many)
            for n, value in enumerate(changed(found)):
                if repr(value) != repr(found) and (found[0] == "steady" or n % 3 == 0):
                    self.shows(judge(program, many, value), program, many, value)

    def test_any(self):
        for value in ANY:
            for told in (value, ("steady", value), ("parts", value), ("steady", (value,)), ("steady", ((value, value),)), ("steady", ((first_stand(BOX), value),)),
                         ("parts", value, value, value), ("parts", (), value, ()), ("parts", (), (), value), ("parts", value, (), ()), (value, value)):
                self.shows(False, BOX, 1, told)


class Errors(unittest.TestCase):
    def test_many(self):
        for value in (0, 5, -1, True, False, None, "1", (1,), [1], {1: 1}):
            for call in (lambda: steady(BOX, value), lambda: shows_steady(BOX, value, None)):
                with self.assertRaises(BadMany) as caught:
                    call()
                self.assertIs(caught.exception.value, value)

    def test_by_name(self):
        found = steady(program=BOX, many=2)
        self.assertEqual(repr(found), repr(steady(BOX, 2)))
        self.assertIs(shows_steady(program=BOX, many=2, value=found), True)

    def test_too_many(self):
        # More than 6000 stands come at all, so it is not asked how soon one parts.
        parting = made(*WIDE, "  show a", *WIDE_DEEDS, "  answer find", "    set a asked")
        for program in (made(*WIDE, "  show a", *WIDE_DEEDS), parting):
            with self.assertRaises(TooMany) as caught:
                steady(program, 2)
            self.assertEqual(repr(caught.exception.number), "6000")
            self.assertIs(shows_steady(program, 2, ("steady", ())), False)
        story = (deed("one", 1), deed("one", 2))
        one, other = (does(0), comes(0), does(0), comes(0)), (does(1), comes(1), does(0), comes(0))
        self.assertIs(shows_steady(parting, 2, ("parts", story, one, other)), True)

    def test_just_so_many(self):
        for seed, program in answering_programs(range(790, 800)):
            wanted = len(stands_by_moves(program, 1))
            for most in (wanted - 1, wanted):
                with mock.patch("lastasked.tables.MOST_MEMBERS", most):
                    if most < wanted:
                        self.assertRaises(TooMany, steady, program, 1)
                    else:
                        self.assertIn(steady(program, 1)[0], ("steady", "parts"))


if __name__ == "__main__":
    unittest.main()
