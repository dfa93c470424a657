"""Section 11: the cheapest choice of guards."""

import itertools
import random
import unittest
from unittest import mock

from lastasked.errors import BadDeeds, BadGuards, BadLooks, BadMany, BadOffers, TooMany
from lastasked.guards import guarded, shows_guarded, with_guards
from lastasked.moments import moments
from lastasked.rests import rests
from tests.helper import comes, deed, does, made
from tests.searches import (
    FIND, drawn_deeds, is_story, is_wrong_rest, judge_moments, judge_rests, lean_programs, pairs_of, word_at_end)
from tests.test_moments import LAST
from tests.test_rests import WIDE, WIDE_DEEDS
from tests.test_stands import ANY, changed

LOOKS = ("houses", "moments", "rests")
# Its elder answer is shown over the newer one, its house is asked in any sequence, and what is refused stays.
SAVE = ("worths 3", "house", "  cell n 0", "  ask save", "    if it = 2", "      refuse", "    set n it", "    answer n", "screen", "  cell c 0",
        "  show c", "  deed pick upto 2", "    ask save it guess c = it", "  answer save", "    set c it")
OFFERS = ((("order",), 1), (("send", "save", "one"), 1), (("send", "save", "queued"), 3))
SMALL = ("worths 2", "house", "  ask find", "    answer it", "screen", "  cell x 0", "  show x", "  deed type upto 1", "    ask find it",
         "  answer find", "    set x it")


def choices(program, offers):
    """(price, choice, program with it) in their sequence."""
    found = []
    for many in range(len(offers) + 1):
        for part in itertools.combinations(offers, many):
            choice = tuple(guard for guard, _ in part)
            try:
                found.append((sum(price for _, price in part), choice, with_guards(program, choice)))
            except BadGuards:
                continue
    return sorted(found, key=lambda row: row[:2])


def look_at(program, many, look, deeds=None):
    if look == "moments":
        return moments(program, many, deeds=deeds)
    return rests(program, many, houses=look == "houses", deeds=deeds)


def is_wrong_by(program, many, look, story, deeds=None):
    if not is_story(program, many, story, deeds):
        return False
    if look == "moments":
        return word_at_end(program, story, many) != ""
    return is_wrong_rest(program, story, many, look == "houses")


def is_table(program, many, look, table, deeds=None):
    if look == "moments":
        return judge_moments(program, many, table, deeds)
    return judge_rests(program, many, table, look == "houses", deeds)


def judge(program, offers, many, looks, value, deeds=None):
    """A plain second judge."""
    rows = choices(program, offers)
    if type(value) is not tuple or len(value) not in (2, 5) or value[0] != ("none" if len(value) == 2 else "choice"):
        return False
    if len(value) == 5:
        places = [n for n, row in enumerate(rows) if repr(row[:2]) == repr(value[1:3])]
        if not places or type(value[3]) is not tuple or len(value[3]) != len(looks):
            return False
        if not all(is_table(rows[places[0]][2], many, look, table, deeds) for look, table in zip(looks, value[3])):
            return False
        rows = rows[:places[0]]
    reasons = value[-1]
    if type(reasons) is not tuple or len(reasons) != len(rows):
        return False
    for reason, row in zip(reasons, rows):
        if type(reason) is not tuple or len(reason) != 3 or repr(reason[0]) != repr(row[1]) or reason[1] not in looks:
            return False
        if not is_wrong_by(row[2], many, reason[1], reason[2], deeds):
            return False
    return True


class Told(unittest.TestCase):
    def told(self, program, offers, many, looks, deeds=None):
        found = guarded(program, offers, many, looks, deeds=deeds)
        reasons = []
        for price, choice, other in choices(program, offers):
            results = [(look, look_at(other, many, look, deeds)) for look in looks]
            wrongs = [(look, result) for look, result in results if result[0] == "wrong"]
            if not wrongs:
                wanted = ("choice", price, choice, tuple(result[1] for _, result in results), tuple(reasons))
                break
            reasons.append((choice, wrongs[0][0], wrongs[0][1][1]))
        else:
            wanted = ("none", tuple(reasons))
        # Any story of fewest moves is told, so stories may differ, but here they are found alike.
        self.assertEqual(repr(found), repr(wanted))
        self.assertIs(shows_guarded(program, offers, many, looks, found, deeds=deeds), True)
        return found

    def shows(self, wanted, program, offers, many, looks, value, deeds=None):
        self.assertIs(shows_guarded(program, offers, many, looks, value, deeds=deeds), wanted, value)
        self.assertIs(judge(program, offers, many, looks, value, deeds), wanted, value)


class Guarded(Told):
    def test_nothing_is_needed(self):
        found = self.told(made(*LAST), ((("send", "find", "one"), 1),), 2, ("moments", "rests"))
        self.assertEqual([found[:3], found[4]], [("choice", 0, ()), ()])

    def test_by_price(self):
        found = self.told(made(*FIND), ((("off", "type", "find"), 4), (("send", "find", "one"), 1), (("take", "find", "last"), 3)), 2, ("rests",))
        self.assertEqual(found[:3], ("choice", 3, (("take", "find", "last"),)))
        self.assertEqual([row[0] for row in found[4]], [(), (("send", "find", "one"),)])

    def test_then_as_tuples(self):
        for prices in ((2, 2), (9, 9)):
            offers = ((("off", "type", "find"), prices[0]), (("take", "find", "last"), prices[1]))
            self.assertEqual(self.told(made(*FIND), offers, 2, ("rests",))[1:3], (prices[0], (("off", "type", "find"),)))
        # A choice of two may cost less than one alone.
        offers = ((("off", "type", "find"), 1), (("order",), 1), (("send", "find", "latest"), 3))
        found = self.told(made(*FIND), offers, 2, ("moments", "rests"))
        self.assertEqual(found[1:3], (1, (("off", "type", "find"),)))

    def test_sequence_of_choices(self):
        program = made(*SAVE)
        found = self.told(program, OFFERS, 2, ("rests",))
        self.assertEqual([reason[0] for reason in found[-1]][:3], [(), (("order",),), (("send", "save", "one"),)])
        self.assertEqual([reason[0] for reason in found[-1]], [row[1] for row in choices(program, OFFERS)][:len(found[-1])])

    def test_none(self):
        found = self.told(made(*FIND), ((("send", "find", "one"), 2), (("take", "find", "rising"), 1)), 2, ("moments",))
        self.assertEqual([found[0], [row[0] for row in found[1]]], ["none", [
            (), (("take", "find", "rising"),), (("send", "find", "one"),), (("send", "find", "one"), ("take", "find", "rising"))]])

    def test_the_first_look_that_is_wrong(self):
        program = made(*SAVE)
        for looks in (("houses",), ("houses", "moments"), ("houses", "rests"), LOOKS):
            found = self.told(program, OFFERS, 2, looks)
            self.assertEqual(found[-1][0][1], "houses")
        found = self.told(program, OFFERS, 2, ("moments", "rests"))
        self.assertEqual(found[-1][0][1], "moments")
        # With another choice the first look is right, and the second one wrong.
        program = made(*FIND[:2], "  cell n 0", *FIND[2:3], "    set n it", *FIND[3:])
        found = self.told(program, ((("order",), 2), (("take", "find", "last"), 1)), 2, ("houses", "rests"))
        self.assertEqual([found[0], found[1]], ["choice", 3])
        found = self.told(program, ((("send", "find", "one"), 1), (("take", "find", "rising"), 1)), 2, ("moments", "rests"))
        self.assertEqual([row[1] for row in found[1]], ["moments"] * 4)

    def test_more_guards_that_are_worse_than_fewer(self):
        program = made(*FIND)
        for more, less in (((("send", "find", "one"), ("take", "find", "last")), (("take", "find", "last"),)),):
            self.assertEqual(rests(with_guards(program, less), 2)[0], "right")
            self.assertEqual(rests(with_guards(program, more), 2)[0], "wrong")
        found = self.told(program, ((("send", "find", "one"), 1), (("take", "find", "last"), 5)), 2, ("rests",))
        self.assertEqual(found[1:3], (5, (("take", "find", "last"),)))

    def test_choices_that_are_let_alone(self):
        # Two words of one take are never chosen together, nor a guess and a drop of one line.
        program = made(*SMALL)
        offers = ((("take", "find", "last"), 1), (("take", "find", "rising"), 1))
        found = guarded(program, offers, 2, ("moments",))
        self.assertEqual(found[1:3], (1, (("take", "find", "last"),)))
        offers = ((("send", "find", "one"), 1), (("send", "find", "queued"), 1), (("take", "find", "rising"), 2))
        found = self.told(program, offers, 2, ("moments",))
        self.assertEqual([row[0] for row in found[1]], [
            (), (("send", "find", "one"),), (("send", "find", "queued"),), (("take", "find", "rising"),), (("send", "find", "one"), ("take", "find", "rising")),
            (("send", "find", "queued"), ("take", "find", "rising"))])
        program = made(*SAVE[:10], "  cell d 0", *SAVE[10:])
        found = self.told(program, ((("drop", 14), 1), (("guess", 14, "d", "+", "1"), 1)), 2, ("rests",))
        self.assertEqual([found[0], [row[0] for row in found[1]]], ["none", [(), (("drop", 14),), (("guess", 14, "d", "+", "1"),)]])
        # Each is let, but a statement too many stands there with both.
        rows = made(*SMALL[:8], *["    set x it"] * 6, "    ask find it", *SMALL[9:])
        offers = ((("forget", "type", "find"), 1), (("off", "type", "find"), 1))
        found = self.told(rows, offers, 2, ("moments",))
        self.assertNotIn((("forget", "type", "find"), ("off", "type", "find")), [row[0] for row in found[-1]])

    def test_one_to_five_offers(self):
        program = made(*SMALL)
        offers = ((("forget", "type", "find"), 1), (("keep", "find", "both"), 1), (("order",), 1), (("send", "find", "one"), 1), (("take", "find", "rising"), 1))
        for many in (1, 2, 3, 4, 5):
            found = self.told(program, offers[:many], 2, ("moments",))
            self.assertEqual([found[0], len(found[1])], ["none", 2 ** many])

    def test_deeds(self):
        program = made(*FIND)
        offers = ((("send", "find", "one"), 1), (("take", "find", "last"), 2))
        for deeds, wanted in (((), 0), ((deed("type", 1),), 0), ((deed("type", 1), deed("type", 1)), 0), ((deed("type", 1), deed("type", 2)), 2)):
            self.assertEqual(self.told(program, offers, 2, ("rests",), deeds)[1], wanted)
        found = self.told(program, offers, 2, ("moments", "rests"), (deed("type", 0), deed("type", 1), deed("type", 2)))
        self.assertEqual([len(member) for table in found[3] for member in table[:1]], [6, 3])

    def test_tables(self):
        program = made(*SMALL)
        found = self.told(program, ((("take", "find", "last"), 2),), 2, LOOKS)
        last = with_guards(program, (("take", "find", "last"),))
        self.assertEqual(found[3], (rests(last, 2, houses=True)[1], moments(last, 2)[1], rests(last, 2)[1]))

    def test_drawn(self):
        words = {}
        for seed, program in lean_programs(range(1100, 1160)):
            draw = random.Random(seed)
            if len(pairs_of(program, 2, 100)) > 100:
                continue
            offers = drawn_offers(draw, program)
            if offers:
                looks = tuple(sorted(draw.sample(LOOKS, draw.randint(1, 3))))
                try:
                    found = self.told(program, offers, 2, looks, drawn_deeds(draw, program, 3) if seed % 2 else None)
                except TooMany:
                    continue
                words[found[0]] = words.get(found[0], 0) + 1
        self.assertGreaterEqual(set(words), {"choice", "none"})

    def test_too_many(self):
        program = made(*WIDE, "  show a", *WIDE_DEEDS)
        offers = ((("take", "find", "last"), 1),)
        for looks in (("moments",), ("rests",), LOOKS):
            with self.assertRaises(TooMany) as caught:
                guarded(program, offers, 2, looks)
            self.assertEqual(repr(caught.exception.number), "6000")
            self.assertIs(shows_guarded(program, offers, 2, looks, ("none", ())), False)

    def test_looks_in_their_sequence_up_to_the_first_that_ends_it(self):
        program = made(*SMALL)
        offers = ((("take", "find", "last"), 2),)
        last = with_guards(program, (("take", "find", "last"),))
        members = len(moments(last, 2)[1])
        # The first choice is wrong by rests; with the second one moments comes to more members.
        with mock.patch("lastasked.tables.MOST_MEMBERS", members - 1):
            self.assertEqual(guarded(program, offers, 2, ("rests",))[0], "choice")
            with self.assertRaises(TooMany):
                guarded(program, offers, 2, ("moments", "rests"))
            # A choice behind it would come to more, but is not looked at.
            self.assertEqual(guarded(last, ((("keep", "find", "both"), 1),), 2, ("rests",))[:3], ("choice", 0, ()))
    def test_a_look_behind_a_wrong_one_is_not_asked(self):
        # Moments are wrong by four moves; rests are right, but come to too many members.
        program = made("worths 4", "house", "  ask find", "    answer it", "screen", "  cell x 0", "  cell b 0", "  cell c 0", "  cell d 0", "  show x",
                       "  take find rising", "  deed type upto 3", "    ask find it", "  deed two upto 3", "    add b it", "  deed three upto 3",
                       "    add c it", "    add d c", "  answer find", "    set x it")
        offers = ((("order",), 1),)
        with self.assertRaises(TooMany):
            guarded(program, offers, 2, ("rests",))
        found = guarded(program, offers, 2, ("moments", "rests"))
        self.assertEqual([found[0], [(row[0], row[1], len(row[2])) for row in found[1]]],
                         ["none", [((), "moments", 4), ((("order",),), "moments", 4)]])
        self.assertIs(shows_guarded(program, offers, 2, ("moments", "rests"), found), True)


def drawn_offers(draw, program):
    """Some guards that are let, with prices."""
    asks, cells, deeds = [ask[0] for ask in program.asks], [cell[0] for cell in program.cells], [name for name, _ in program.deeds]
    guards = [("order",)]
    for ask in asks:
        guards += [("take", ask, word) for word in ("last", "rising", "any")] + [("send", ask, word) for word in ("one", "latest", "queued", "resting", "many")]
        guards += [("keep", ask, word) for word in ("only", "both", "none")]
        guards += [(word, name, ask) for word in ("off", "forget") for name in deeds]
    guards += [("back", cell, word) for cell in cells for word in ("redone", "kept")]
    found = []
    for guard in draw.sample(guards, min(4, len(guards))):
        try:
            with_guards(program, (guard,))
        except BadGuards:
            continue
        found.append((guard, draw.randint(1, 4)))
    return tuple(sorted(found[:3]))


class Shows(Told):
    PROGRAM = made(*SMALL)
    OFFERS = ((("send", "find", "one"), 1), (("take", "find", "last"), 2))
    STORY = (deed("type", 1), deed("type", 0), does(0), does(1), comes(1), comes(0))

    def test_any_look_of_looks(self):
        found = guarded(self.PROGRAM, self.OFFERS, 2, LOOKS)
        self.assertEqual(found[:2], ("choice", 2))
        one = found[4][1]
        for look, wanted in (("houses", True), ("rests", True), ("moments", True), ("rest", False), ("", False), (None, False), (0, False), (("rests",), False),
                             (["rests"], False)):
            value = found[:4] + ((((), look, self.STORY), one),)
            self.shows(wanted, self.PROGRAM, self.OFFERS, 2, LOOKS, value)
        # One that is not among the looks.
        found = guarded(self.PROGRAM, self.OFFERS, 2, ("rests",))
        for look in ("houses", "moments"):
            self.shows(False, self.PROGRAM, self.OFFERS, 2, ("rests",), found[:4] + ((((), look, self.STORY), found[4][1]),))
        # A story that is wrong by another look.
        moment = (deed("type", 1), does(0), deed("type", 0), comes(0))
        found = guarded(self.PROGRAM, self.OFFERS, 2, ("moments", "rests"))
        for look in ("moments", "rests"):
            value = found[:4] + ((((), look, moment), found[4][1]),)
            self.shows(look == "moments", self.PROGRAM, self.OFFERS, 2, ("moments", "rests"), value)

    def test_longer_stories(self):
        found = guarded(self.PROGRAM, self.OFFERS, 2, ("rests",))
        turn = (deed("type", 1), does(0), comes(0))
        for lead in ((), turn, turn * 3):
            self.shows(True, self.PROGRAM, self.OFFERS, 2, ("rests",), found[:4] + ((((), "rests", lead + self.STORY), found[4][1]),))
        for story in ((), turn, self.STORY[:-1], list(self.STORY)):
            self.shows(False, self.PROGRAM, self.OFFERS, 2, ("rests",), found[:4] + ((((), "rests", story), found[4][1]),))

    def test_reasons(self):
        found = guarded(self.PROGRAM, self.OFFERS, 2, ("rests",))
        first, second = found[4]
        for reasons in ((first,), (second,), (), (first, first, second), (first, second, second), (second, first), [first, second],
                        (list(first), second), (first[:2], second), (first + (0,), second), ((list(first[0]),) + first[1:], second), (first, first),
                        (first, second, ((("take", "find", "last"),), "rests", self.STORY))):
            self.shows(False, self.PROGRAM, self.OFFERS, 2, ("rests",), found[:4] + (reasons,))
            self.shows(False, self.PROGRAM, self.OFFERS, 2, ("rests",), ("none", reasons))

    def test_none(self):
        offers = ((("send", "find", "one"), 2), (("take", "find", "rising"), 1))
        found = guarded(self.PROGRAM, offers, 2, ("moments",))
        self.shows(True, self.PROGRAM, offers, 2, ("moments",), found)
        for value in (found[1], found + (0,), ("choice",) + found[1:], ("none", found[1][:-1]), ("none", found[1][1:]), ("none", found[1] + found[1][-1:]),
                      ("none", found[1][::-1]), ("none",), ["none", found[1]], ("None", found[1]), ("none", ())):
            self.shows(False, self.PROGRAM, offers, 2, ("moments",), value)
        # Not for fewer asks.
        self.shows(False, self.PROGRAM, offers, 1, ("moments",), found)

    def test_a_dearer_choice(self):
        # Its tables are right, but a choice ahead of it is right, too.
        offers = ((("off", "type", "find"), 3), (("take", "find", "last"), 2))
        found = guarded(self.PROGRAM, offers, 2, ("rests",))
        off = with_guards(self.PROGRAM, (("off", "type", "find"),))
        reason = found[4][0]
        for reasons in ((reason,), (reason, ((("take", "find", "last"),), "rests", self.STORY))):
            self.shows(False, self.PROGRAM, offers, 2, ("rests",), ("choice", 3, (("off", "type", "find"),), (rests(off, 2)[1],), reasons))

    def test_prices_and_choices(self):
        found = guarded(self.PROGRAM, self.OFFERS, 2, ("rests",))
        for price in (0, 1, 3, -2, True, False, None, "2", (2,), [2]):
            self.shows(False, self.PROGRAM, self.OFFERS, 2, ("rests",), ("choice", price) + found[2:])
        for choice in ((), (("send", "find", "one"),), (("send", "find", "one"), ("take", "find", "last")), list(found[2]), (list(found[2][0]),), None, "",
                       ("take", "find", "last")):
            self.shows(False, self.PROGRAM, self.OFFERS, 2, ("rests",), found[:2] + (choice,) + found[3:])
        # True is no price of 1.
        offers = ((("take", "find", "last"), 1),)
        found = guarded(self.PROGRAM, offers, 2, ("rests",))
        self.shows(True, self.PROGRAM, offers, 2, ("rests",), found)
        self.shows(False, self.PROGRAM, offers, 2, ("rests",), ("choice", True) + found[2:])

    def test_tables(self):
        for looks in (("rests",), ("moments", "rests"), LOOKS):
            found = guarded(self.PROGRAM, self.OFFERS, 2, looks)
            tables = found[3]
            for value in ((), tables[:-1], tables + tables[:1], list(tables), tables[:-1] + (tables[-1][1:],), tables[:-1] + (tables[-1][::-1],),
                          tables[:-1] + ((),), tables[::-1] if len(looks) == 2 else (), None, (tables,)):
                self.shows(False, self.PROGRAM, self.OFFERS, 2, looks, found[:3] + (value,) + found[4:])
        # Tables of more asks are closed for fewer, too; reasons are not.
        more = guarded(self.PROGRAM, ((("take", "find", "last"), 2),), 3, ("rests",))
        self.shows(True, self.PROGRAM, ((("take", "find", "last"), 2),), 2, ("rests",), more)
        self.shows(False, self.PROGRAM, ((("take", "find", "last"), 2),), 1, ("rests",), more)

    def test_deeds(self):
        deeds = (deed("type", 1), deed("type", 0))
        found = guarded(self.PROGRAM, self.OFFERS, 2, ("rests",), deeds=deeds)
        self.shows(True, self.PROGRAM, self.OFFERS, 2, ("rests",), found, deeds)
        self.shows(False, self.PROGRAM, self.OFFERS, 2, ("rests",), found)
        self.shows(False, self.PROGRAM, self.OFFERS, 2, ("rests",), guarded(self.PROGRAM, self.OFFERS, 2, ("rests",)), deeds)
        self.shows(False, self.PROGRAM, self.OFFERS, 2, ("rests",), found, deeds[::-1])

    def test_one_thing_otherwise(self):
        offers = ((("take", "find", "last"), 1),)
        deeds = (deed("type", 1), deed("type", 0))
        found = guarded(self.PROGRAM, offers, 2, ("rests",), deeds=deeds)
        told = repr(found)
        for value in itertools.islice(changed(found), 0, None, 29):
            if repr(value) != told:
                wanted = judge(self.PROGRAM, offers, 2, ("rests",), value, deeds)
                self.shows(wanted, self.PROGRAM, offers, 2, ("rests",), value, deeds)

    def test_any(self):
        for value in ANY:
            for told in (value, ("none", value), ("choice", value, (), (), ()), ("choice", 0, value, (), ()), ("choice", 0, (), value, ()),
                         ("choice", 0, (), ((),), value), ("none", (value,) * 4), ("none", ((value,) * 3,) * 4), ("none", (((), "rests", value),) * 4)):
                self.shows(False, self.PROGRAM, self.OFFERS, 2, ("rests",), told)

    def test_by_name(self):
        found = guarded(program=self.PROGRAM, offers=self.OFFERS, many=2, looks=("rests",), deeds=None)
        self.assertIs(shows_guarded(program=self.PROGRAM, offers=self.OFFERS, many=2, looks=("rests",), value=found, deeds=None), True)
        with self.assertRaises(TypeError):
            guarded(self.PROGRAM, self.OFFERS, 2, ("rests",), None)


BAD_OFFERS = (
    (), [], None, 0, True, "", {}, ((("order",), 1),) * 2, ((("order",), 1), (("order",), 2)), ((("order",), 0),), ((("order",), 10),), ((("order",), -1),),
    ((("order",), True),), ((("order",), "1"),), ((("order",), None),), ((("order",),),), ((("order",), 1, 1),), (("order", 1),), (((), 1),),
    (((("order",),), 1),), [(("order",), 1)], ([("order",), 1],), ((["order"], 1),), ((("take", "find", "any"), 1),), ((("take", "find", "last"), 1), (("order",), 1)),
    ((("drop", 9), 1),), ((("guess", 8, "x", "=", "it"), 1),), ((("guess", 9, "x", "=", "asked"), 1),), ((("take", "load", "last"), 1),), (None,), (0, 1),
    ((("forget", "type", "find"), 1), (("keep", "find", "both"), 1), (("keep", "find", "only"), 1), (("order",), 1), (("send", "find", "one"), 1),
     (("take", "find", "rising"), 1)))
BAD_LOOKS = ((), [], None, 0, True, "", "rests", ["rests"], ("rest",), ("rests", "rests"), ("rests", "moments"), ("moments", "houses"), ("houses", "moments", "rests", "rests"),
             (None,), (("rests",),), ("rests", None), ("Rests",), {"rests": 1}, ("rests", 0), ("never",), ("ever", "rests"))


class Errors(unittest.TestCase):
    PROGRAM = made(*SMALL)

    def fails(self, error, value, *arguments, **more):
        for call in (guarded, lambda *rest, **names: shows_guarded(*rest, None, **names)):
            with self.assertRaises(error) as caught:
                call(self.PROGRAM, *arguments, **more)
            self.assertIs(caught.exception.value, value)

    def test_offers(self):
        for value in BAD_OFFERS:
            self.fails(BadOffers, value, value, 2, ("rests",))
        for value in ANY:
            self.fails(BadOffers, value, value, 2, ("rests",))
            for offers in ((value,), ((value, 1),), ((("order",), value),) if value != 1 or type(value) is not int else (value,)):
                self.fails(BadOffers, offers, offers, 2, ("rests",))

    def test_looks(self):
        offers = ((("order",), 9),)
        for value in BAD_LOOKS + ANY:
            self.fails(BadLooks, value, offers, 1, value)

    def test_many_and_deeds(self):
        offers = ((("order",), 9),)
        for value in (0, 5, True, None, "1"):
            self.fails(BadMany, value, offers, value, ("rests",))
        for value in ((deed("type"),) * 9, (deed("type", 2),), [], 0, (None,), False):
            self.fails(BadDeeds, value, offers, 1, ("rests",), deeds=value)

    def test_several_at_once(self):
        bad = ((("order",), 0),)
        nine = (deed("type"),) * 9
        offers = ((("order",), 1),)
        self.fails(BadOffers, bad, bad, 0, (), deeds=nine)
        self.fails(BadOffers, bad, bad, 1, ("rests",), deeds=nine)
        self.fails(BadMany, 0, offers, 0, (), deeds=nine)
        self.fails(BadMany, 5, offers, 5, ("rests",), deeds=nine)
        self.fails(BadLooks, (), offers, 1, (), deeds=nine)
        self.fails(BadDeeds, nine, offers, 1, ("rests",), deeds=nine)

    def test_what_is_handed_in_stays(self):
        offers, looks, deeds = ((("order",), 1), (("take", "find", "last"), 1)), ("moments", "rests"), (deed("type", 1),)
        found = guarded(self.PROGRAM, offers, 2, looks, deeds=deeds)
        self.assertEqual([offers, looks, deeds, self.PROGRAM.text], [((("order",), 1), (("take", "find", "last"), 1)), ("moments", "rests"), (deed("type", 1),),
                                                                     "\n".join(SMALL)])
        self.assertEqual(repr(guarded(self.PROGRAM, offers, 2, looks, deeds=deeds)), repr(found))


if __name__ == "__main__":
    unittest.main()
