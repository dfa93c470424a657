"""Section 15: keepers, step by step beside plain calls of their story."""

import random
import unittest
from unittest import mock

from lastasked.errors import BadDeeds, BadLooks, BadMany, BadOffers, BadPrograms, Exchanged, NoMove, NothingToRedo, NothingToUndo, TooMany
from lastasked.guards import guarded
from lastasked.keeper import Keeper
from lastasked.led import led
from lastasked.moments import moments
from lastasked.moves import after, moves
from lastasked.plain import plain_after, plain_first, plain_shown
from lastasked.programs import Program
from lastasked.rests import rests
from lastasked.stands import first_stand, shown
from tests.helper import comes, deed, does, drawn_text, made, sends
from tests.passages import OVER, Passing, drawn_programs, led_over, steps_over, word_over
from tests.searches import FIND, lean_programs
from tests.test_guarded import BAD_LOOKS, BAD_OFFERS
from tests.test_moments import PAIR
from tests.test_stands import ANY

TYPE = made(*FIND)
LAST = made(*FIND[:7], "  take find last", *FIND[7:])
STORY = (deed("type", 1), deed("type", 2), does(0), does(1), comes(1), comes(0))


def seen(keeper):
    """All that a keeper shows, as a string, but what can be done again."""
    return repr([keeper.program.text, [program.text for program in keeper.programs], keeper.many, keeper.stand, keeper.plain, keeper.shown, keeper.plain_shown, keeper.story, keeper.journal,
                 list(keeper), keeper.moves(), keeper.wrongs()])


def all_seen(keeper):
    """All that a keeper shows, and all that can be undone and done again in it."""
    other = keeper.copy()
    found = [seen(keeper), seen(other)]
    for call, error in ((other.redo, NothingToRedo), (other.undo, NothingToUndo)):
        while True:
            try:
                call()
            except error:
                break
            found.append(seen(other))
    return found


def kept(program, many, *story):
    keeper = Keeper(program, many)
    for move in story:
        keeper.do(move)
    return keeper


class Told(unittest.TestCase):
    def told(self, keeper, programs, story):
        """The keeper beside the second reading of a story with exchanges."""
        many = keeper.many
        steps = led_over(programs, many, (), story)
        stand, plain = (first_stand(programs[0]), plain_first(programs[0])) if not steps else steps[-1][2:4]
        program = programs[steps[-1][1] if steps else 0]
        self.assertEqual(keeper.programs, programs)
        self.assertEqual([keeper.program, repr(keeper.many), repr(keeper.story)], [program, repr(many), repr(story)])
        self.assertEqual(repr([keeper.stand, keeper.plain]), repr([stand, plain]))
        self.assertEqual(repr([keeper.shown, keeper.plain_shown]), repr([shown(program, stand), plain_shown(program, plain)]))
        self.assertEqual(repr(keeper.moves()), repr(moves(program, stand, many)))
        self.assertEqual(repr(keeper.wrongs()), repr(second_wrongs(programs, steps)))
        self.assertEqual(list(keeper), list(story))


def second_wrongs(programs, steps):
    found = []
    for n in range(len(steps) + 1):
        word = word_over(programs, steps[:n])
        if n > 0 and word == "":
            _, number, stand, plain, _ = steps[n - 1]
            if not stand[3] and shown(programs[number], stand) != plain_shown(programs[number], plain):
                word = "rest"
        if word:
            found.append((n, word))
    return tuple(found)


class Do(Told):
    def test_step_by_step(self):
        keeper = Keeper(TYPE, 2)
        self.told(keeper, (TYPE,), ())
        for n, move in enumerate(STORY):
            self.assertEqual(repr(keeper.do(move)), repr(keeper.shown))
            self.told(keeper, (TYPE,), STORY[:n + 1])
            self.assertEqual((keeper.stand, keeper.plain), led(TYPE, 2, STORY[:n + 1]))
        self.assertEqual(keeper.wrongs(), ((6, "elder"),))

    def test_first(self):
        keeper = Keeper(TYPE, 3)
        self.assertEqual([keeper.program, keeper.programs, keeper.many, keeper.story], [TYPE, (TYPE,), 3, ()])
        self.assertEqual([keeper.stand, keeper.plain, keeper.shown, keeper.plain_shown], [first_stand(TYPE), plain_first(TYPE), (0,), (0,)])
        self.assertEqual([keeper.moves(), keeper.wrongs(), list(keeper)], [moves(TYPE, first_stand(TYPE), 3), (), []])

    def test_drawn(self):
        for seed in range(5000, 5060):
            draw = random.Random(seed)
            program, many = Program(drawn_text(draw)), draw.randint(1, 4)
            keeper, stand, plain = Keeper(program, many), first_stand(program), plain_first(program)
            for _ in range(12):
                move = draw.choice(moves(program, stand, many))
                if move[0] == "deed":
                    plain = plain_after(program, plain, move[1], move[2])[0]
                stand = after(program, stand, move)
                self.assertEqual(repr(keeper.do(move)), repr(shown(program, stand)))
                self.assertEqual(repr([keeper.stand, keeper.plain, keeper.plain_shown]), repr([stand, plain, plain_shown(program, plain)]))
            self.assertEqual(repr(led(program, many, keeper.story)), repr((stand, plain)))

    def test_what_is_not_possible(self):
        keeper = kept(TYPE, 2, deed("type", 1), does(0))
        before = all_seen(keeper)
        for value in ANY + (OVER, does(0), does(1), comes(1), comes(-1), sends(0), ("gone", 0), deed("type", 3), deed("type", True), deed("find", 0), deed("type"), ["deed", "type", 0], list(comes(0)), ("comes",), ("comes", False), ("over", 0), "over",
                            ("comes", 0, 0), ("deed", "type"), ("deed", "type", 0, 0), ("type", 0), ("deed", ["type"], 0), ((("deed",),),)):
            if value == deed("type"):
                continue
            with self.assertRaises(NoMove) as caught:
                keeper.do(value)
            self.assertIs(caught.exception.value, value)
            self.assertEqual(all_seen(keeper), before)

    def test_room(self):
        keeper = kept(TYPE, 1, deed("type", 1))
        move = deed("type", 2)
        with self.assertRaises(NoMove) as caught:
            keeper.do(move)
        self.assertIs(caught.exception.value, move)
        self.assertEqual(keeper.moves(), (does(0),))
        self.assertEqual(kept(TYPE, 2, deed("type", 1)).moves(), (deed("type", 0), deed("type", 1), deed("type", 2), does(0)))

    def test_returns(self):
        unsure = made(*FIND[:7], "  unsure x = 1", *FIND[7:])
        keeper = Keeper(unsure, 1)
        self.assertEqual([keeper.do(move) for move in (deed("type", 1), does(0), comes(0), deed("type", 2), does(0), comes(0))], [(0,), (0,), None, None, None, (2,)])
        self.assertIsNone(keeper.undo())
        self.assertIsNone(keeper.redo())

    def test_many(self):
        for value in (0, 5, -1, True, False, None, "1", (1,), [1], {1: 1}):
            with self.assertRaises(BadMany) as caught:
                Keeper(TYPE, value)
            self.assertIs(caught.exception.value, value)

    def test_by_name(self):
        keeper = Keeper(program=TYPE, many=2)
        self.assertEqual(keeper.do(move=deed("type", 1)), (0,))
        self.assertEqual(keeper.exchange(newer=LAST), (0,))
        self.assertEqual(keeper.tried(look=lambda one: one.shown, keep=False), (0,))
        self.assertEqual(Keeper(LAST, 2).missing(offers=((("order",), 1),), looks=("rests",)), guarded(LAST, ((("order",), 1),), 2, ("rests",), deeds=()))


class Iterating(unittest.TestCase):
    def test_as_it_stands(self):
        keeper = kept(TYPE, 2, *STORY[:3])
        begun = iter(keeper)
        self.assertEqual(next(begun), STORY[0])
        keeper.do(STORY[3])
        self.assertEqual(list(begun), list(STORY[1:3]))
        self.assertEqual(list(keeper), list(STORY[:4]))
        begun = iter(keeper)
        keeper.undo()
        keeper.undo()
        self.assertEqual(list(begun), list(STORY[:4]))
        self.assertEqual([move for move in keeper], list(STORY[:2]))
        self.assertEqual(list(iter(Keeper(TYPE, 1))), [])
        found = []
        for move in keeper:
            found.append(move)
            if len(keeper.story) < 6:
                keeper.do(keeper.moves()[0] if keeper.moves()[0][0] != "deed" else does(0))
        self.assertEqual(found, list(STORY[:2]))

    def test_exchanges(self):
        keeper = kept(LAST, 2, deed("type", 1))
        keeper.exchange(LAST)
        self.assertEqual(list(keeper), [deed("type", 1), OVER])


class UndoAndRedo(Told):
    def test_moves(self):
        keeper = kept(TYPE, 2, *STORY)
        for n in range(5, -1, -1):
            keeper.undo()
            self.told(keeper, (TYPE,), STORY[:n])
        self.assertRaises(NothingToUndo, keeper.undo)
        self.told(keeper, (TYPE,), ())
        for n in range(6):
            keeper.redo()
            self.told(keeper, (TYPE,), STORY[:n + 1])
        self.assertRaises(NothingToRedo, keeper.redo)
        self.told(keeper, (TYPE,), STORY)

    def test_nothing(self):
        keeper = Keeper(TYPE, 2)
        self.assertRaises(NothingToUndo, keeper.undo)
        self.assertRaises(NothingToRedo, keeper.redo)
        keeper.do(STORY[0])
        self.assertRaises(NothingToRedo, keeper.redo)
        keeper.undo()
        self.assertRaises(NothingToUndo, keeper.undo)
        keeper.redo()
        self.assertRaises(NothingToRedo, keeper.redo)
        self.told(keeper, (TYPE,), STORY[:1])

    def test_exchanges(self):
        keeper = kept(LAST, 2, deed("type", 1))
        newer = made(*FIND, "  over", "    set x 2")
        keeper.exchange(newer)
        keeper.do(does(0))
        story = (deed("type", 1), OVER, does(0))
        self.told(keeper, (LAST, newer), story)
        keeper.undo()
        self.told(keeper, (LAST, newer), story[:2])
        keeper.undo()
        self.told(keeper, (LAST,), story[:1])
        self.assertIs(keeper.program, LAST)
        keeper.redo()
        self.told(keeper, (LAST, newer), story[:2])
        keeper.redo()
        self.told(keeper, (LAST, newer), story)

    def test_what_can_be_done_again_is_emptied(self):
        keeper = kept(TYPE, 2, *STORY)
        keeper.undo()
        keeper.undo()
        keeper.undo()
        # A do that raises empties nothing, neither does an exchange that raises.
        self.assertRaises(NoMove, keeper.do, comes(1))
        self.assertRaises(BadPrograms, keeper.exchange, made(*PAIR, "  deed go", "    anew"))
        keeper.redo()
        self.told(keeper, (TYPE,), STORY[:4])
        keeper.do(comes(0))
        self.assertRaises(NothingToRedo, keeper.redo)
        keeper.undo()
        keeper.redo()
        self.told(keeper, (TYPE,), STORY[:4] + (comes(0),))
        keeper.undo()
        keeper.exchange(LAST)
        self.assertRaises(NothingToRedo, keeper.redo)
        # Also if the same is done that was taken back.
        keeper.undo()
        keeper.exchange(LAST)
        self.assertRaises(NothingToRedo, keeper.redo)

    def test_drawn(self):
        for seed in range(5100, 5140):
            draw = random.Random(seed)
            programs = Passing(draw).programs(3)
            if len(programs) < 3:
                continue
            keeper, done, undone = Keeper(programs[0], 3), [], []
            for _ in range(25):
                kind = draw.choice(("do", "do", "do", "exchange", "undo", "redo"))
                try:
                    if kind == "do":
                        move = draw.choice(keeper.moves())
                        keeper.do(move)
                        done, undone = done + [(move, None)], []
                    elif kind == "exchange":
                        newer = draw.choice(programs)
                        keeper.exchange(newer)
                        done, undone = done + [(OVER, newer)], []
                    elif kind == "undo":
                        keeper.undo()
                        undone.append(done.pop())
                    else:
                        keeper.redo()
                        done.append(undone.pop())
                except NothingToUndo:
                    self.assertEqual(done, [])
                except NothingToRedo:
                    self.assertEqual(undone, [])
                except NoMove:
                    self.assertEqual(kind, "exchange")
            story = tuple(move for move, _ in done)
            self.told(keeper, (programs[0],) + tuple(newer for _, newer in done if newer is not None), story)


class Exchange(Told):
    def test_suits(self):
        rows = ("worths 2", "house", "  ask find", "    answer it", "screen", "  cell x 0")
        keeper = kept(made(*rows, "  show x", "  deed go", "    ask find 1"), 1, deed("go"))
        before = all_seen(keeper)
        for newer in (made("worths 3", *rows[1:], "  show x", "  deed go", "    anew"), made(*rows[:3], *rows[4:], "  show x", "  deed go", "    anew"), made(*rows[:2], "  in order", *rows[2:], "  show x", "  deed go", "    anew"),
                      made(*rows, "  cell y 0", "  show x y", "  deed go", "    anew"), made(*rows[:2], "  cell n 0", *rows[2:], "  show x", "  deed go", "    anew"), made(*rows[:4], "  ask also", *rows[4:], "  show x", "  deed go", "    anew")):
            with self.assertRaises(BadPrograms) as caught:
                keeper.exchange(newer)
            self.assertEqual([type(caught.exception.value), len(caught.exception.value)], [tuple, 2])
            self.assertIs(caught.exception.value[0], keeper.program)
            self.assertIs(caught.exception.value[1], newer)
            self.assertEqual(all_seen(keeper), before)

    def test_suits_the_present_one(self):
        keeper = Keeper(TYPE, 1)
        keeper.exchange(LAST)
        newer = made("worths 2", *FIND[1:7], "  deed type upto 1", *FIND[8:])
        with self.assertRaises(BadPrograms) as caught:
            keeper.exchange(newer)
        self.assertEqual(caught.exception.value, (LAST, newer))

    def test_no_room(self):
        asking = made(*FIND, "  over", "    ask find 0")
        keeper = kept(TYPE, 1, deed("type", 1))
        keeper.do(does(0))
        keeper.undo()
        before = all_seen(keeper)
        with self.assertRaises(NoMove) as caught:
            keeper.exchange(asking)
        self.assertEqual(repr(caught.exception.value), "('over',)")
        self.assertEqual(all_seen(keeper), before)
        self.assertEqual(kept(TYPE, 2, deed("type", 1)).exchange(asking), (0,))

    def test_bad_programs_ahead_of_room(self):
        rows = ("worths 2", "house", "  ask find", "    answer it", "screen", "  cell x 0", "  show x", "  deed go", "    ask find 1", "  over", "    ask find 0")
        keeper = kept(TYPE, 1, deed("type", 1))
        self.assertRaises(BadPrograms, keeper.exchange, made(*rows))

    def test_equal_programs(self):
        keeper = kept(TYPE, 2, deed("type", 1))
        for n in range(5):
            self.assertEqual(keeper.exchange(TYPE), (0,))
        self.told(keeper, (TYPE,) * 6, (deed("type", 1),) + (OVER,) * 5)

    def test_step_by_step(self):
        for seed in range(5200, 5240):
            programs = drawn_programs(seed, 3)
            draw = random.Random(seed)
            if not programs:
                continue
            keeper, story, number = Keeper(programs[0], 2), (), 0
            for _ in range(14):
                found = list(steps_over(programs, 2, (), number, keeper.stand, keeper.plain))
                if not found:
                    break
                overs = [step for step in found if step[0] == OVER]
                step = overs[0] if overs and draw.random() < 0.2 else draw.choice(found)
                shows = keeper.exchange(programs[number + 1]) if step[0] == OVER else keeper.do(step[0])
                number, story = step[1], story + step[:1]
                self.assertEqual(repr(shows), repr(shown(programs[number], step[2])))
            self.told(keeper, programs[:number + 1], story)


class Wrongs(Told):
    def test_words(self):
        self.assertEqual(kept(TYPE, 2, deed("type", 1), deed("type"), does(0), does(1), comes(1), comes(0)).wrongs(), ((6, "elder"),))
        pair = made(*PAIR, "  deed go", "    ask left 0", "    ask right 0", "  answer left", "    set l 1", "  answer right", "    set r 1")
        keeper = kept(pair, 2, deed("go"), does(1), comes(1))
        self.assertEqual(keeper.wrongs(), ((3, "never"),))
        # A moment's word ahead of a rest's: at the end of both is a rest.
        self.told(keeper, (pair,), keeper.story)

    def test_a_rest_that_is_no_wrong_moment(self):
        # What is shown was so since, but it is not what is shown in the plain meaning.
        refused = made("worths 3", "house", "  ask save", "    if it = 2", "      refuse", "screen", "  cell c 0", "  show c", "  send save one", "  deed pick upto 2", "    ask save it guess c = it")
        keeper = kept(refused, 2, deed("pick", 1), deed("pick", 2), does(0), comes(0))
        self.told(keeper, (refused,), keeper.story)
        late = made(*FIND[:7], "  send find one", *FIND[7:])
        keeper = kept(late, 2, deed("type", 1), deed("type", 2), does(0), comes(0))
        self.assertEqual(keeper.wrongs(), ((4, "rest"),))
        self.assertEqual([keeper.shown, keeper.plain_shown], [(1,), (2,)])
        # It is so as long as nothing is under way.
        keeper.do(deed("type", 2))
        self.assertEqual(keeper.wrongs(), ((4, "rest"),))
        for move in (does(0), comes(0)):
            keeper.do(move)
        self.assertEqual(keeper.wrongs(), ((4, "rest"),))

    def test_not_shown(self):
        # Nothing is shown at no moment that is wrong, but at a rest it is, if something is shown in the plain meaning.
        unsure = made("worths 3", "house", "  ask find", "    answer it", "screen", "  cell x 0", "  cell want 0", "  show x", "  unsure x = 2", "  deed type upto 1", "    set want it", "    ask find it", "  answer find",
                      "    if asked = want", "      set x it", "    else", "      set x 2")
        keeper = kept(unsure, 2, deed("type", 1), deed("type", 0), does(0), comes(0))
        self.assertEqual([keeper.shown, keeper.wrongs()], [None, ()])
        keeper = kept(unsure, 2, deed("type", 1), deed("type", 0), does(1), comes(1), does(0), comes(0))
        self.assertEqual([keeper.shown, keeper.plain_shown, keeper.wrongs()], [None, (0,), ((6, "rest"),)])
        self.told(keeper, (unsure,), keeper.story)
        # None is like None.
        both = made("worths 2", "house", "  ask find", "    answer it", "screen", "  cell x 0", "  show x", "  unsure x = 1", "  deed go", "    set x 1")
        self.assertEqual(kept(both, 1, deed("go")).wrongs(), ())

    def test_on_across_exchanges(self):
        anew = made(*FIND[:7], "  take find last", *FIND[7:], "  over", "    anew")
        keeper = kept(LAST, 2, deed("type", 1))
        self.assertEqual(keeper.exchange(anew), (0,))
        for move in (does(0), comes(0)):
            keeper.do(move)
        self.assertEqual(keeper.wrongs(), ((4, "elder"),))
        self.told(keeper, (LAST, anew), keeper.story)
        keeper.undo()
        self.assertEqual(keeper.wrongs(), ())
        keeper.redo()
        keeper.exchange(LAST)
        self.told(keeper, (LAST, anew, LAST), keeper.story)

    def test_behind_undo(self):
        keeper = kept(TYPE, 2, *STORY)
        keeper.undo()
        self.assertEqual(keeper.wrongs(), ())
        keeper.redo()
        self.assertEqual(keeper.wrongs(), ((6, "elder"),))
        keeper.do(deed("type", 1))
        self.told(keeper, (TYPE,), keeper.story)
        keeper.undo()
        keeper.undo()
        keeper.do(comes(0))
        self.assertEqual(keeper.wrongs(), ((6, "elder"),))

    def test_each_of_them(self):
        # Each wrong moment counts, also if nothing changed.
        keeper = kept(TYPE, 3, deed("type", 1), deed("type", 2), does(0), does(1), comes(1), deed("type", 2), comes(0), does(0))
        self.assertEqual(keeper.wrongs(), ((7, "elder"), (8, "elder")))

    def test_stories_of_looks(self):
        # What rests or moments tell wrong is wrong at its end, and nowhere ahead of it by moments.
        rested = seen_ = 0
        for seed, program in lean_programs(range(5300, 5400)):
            for call in (rests, moments):
                try:
                    found = call(program, 2)
                except TooMany:
                    continue
                if found[0] == "wrong":
                    keeper = kept(program, 2, *found[1])
                    number, word = keeper.wrongs()[-1]
                    self.assertEqual(number, len(found[1]))
                    if call is moments:
                        self.assertEqual([(number, word)], [row for row in keeper.wrongs() if row[1] != "rest"])
                        self.assertEqual(word, found[2])
                        seen_ += 1
                    rested += call is rests
        self.assertGreater(rested, 20)
        self.assertGreater(seen_, 20)


class Missing(unittest.TestCase):
    OFFERS = ((("send", "find", "one"), 1), (("take", "find", "last"), 2))

    def test_as_guarded(self):
        for story in ((), STORY[:1], STORY[:2], STORY, (deed("type", 1),) + STORY):
            keeper = kept(TYPE, 3, *story)
            deeds = tuple(move for move in story if move[0] == "deed")
            for looks in (("rests",), ("moments", "rests")):
                found = keeper.missing(self.OFFERS, looks)
                self.assertEqual(repr(found), repr(guarded(TYPE, self.OFFERS, 3, looks, deeds=deeds)))
        self.assertEqual(kept(TYPE, 2, *STORY).missing(self.OFFERS, ("rests",))[:3], ("choice", 2, (("take", "find", "last"),)))

    def test_behind_undo(self):
        keeper = kept(TYPE, 2, *STORY[:2])
        keeper.undo()
        self.assertEqual(keeper.missing(self.OFFERS, ("rests",)), guarded(TYPE, self.OFFERS, 2, ("rests",), deeds=STORY[:1]))

    def test_eight_deeds_and_nine(self):
        turn = (deed("type", 1), does(0), comes(0))
        keeper = kept(TYPE, 1, *turn * 8)
        self.assertEqual(keeper.missing(self.OFFERS, ("rests",))[:2], ("choice", 0))
        keeper.do(deed("type", 2))
        with self.assertRaises(BadDeeds) as caught:
            keeper.missing(self.OFFERS, ("rests",))
        self.assertEqual(repr(caught.exception.value), repr((deed("type", 1),) * 8 + (deed("type", 2),)))

    def test_errors_in_their_sequence(self):
        turn = (deed("type", 1), does(0), comes(0))
        keeper = kept(TYPE, 1, *turn * 9)
        before = all_seen(keeper)
        self.assertRaises(BadDeeds, keeper.missing, (), ())
        keeper.exchange(LAST)
        self.assertRaises(Exchanged, keeper.missing, (), ())
        self.assertRaises(Exchanged, keeper.missing, self.OFFERS, ("rests",))
        keeper.undo()
        self.assertRaises(BadDeeds, keeper.missing, self.OFFERS, ("rests",))
        self.assertEqual(seen(keeper), before[0])
        short = kept(TYPE, 2, deed("type", 1))
        for value in BAD_OFFERS:
            with self.assertRaises(BadOffers) as caught:
                short.missing(value, ())
            self.assertIs(caught.exception.value, value)
        for value in BAD_LOOKS:
            with self.assertRaises(BadLooks) as caught:
                short.missing(self.OFFERS, value)
            self.assertIs(caught.exception.value, value)
        equal = kept(TYPE, 1)
        equal.exchange(TYPE)
        self.assertRaises(Exchanged, equal.missing, self.OFFERS, ("rests",))

    def test_nothing_is_changed(self):
        keeper = kept(TYPE, 2, *STORY)
        keeper.undo()
        before = all_seen(keeper)
        keeper.missing(self.OFFERS, ("rests",))
        self.assertEqual(all_seen(keeper), before)


class TooManyMembers(unittest.TestCase):
    def test_nothing_is_changed(self):
        keeper = kept(TYPE, 2, *STORY)
        keeper.undo()
        before = all_seen(keeper)
        for most in (1, 3, 1000):
            with mock.patch("lastasked.tables.MOST_MEMBERS", most):
                if most == 1000:
                    keeper.outlook()
                    keeper.missing(Missing.OFFERS, ("rests",))
                else:
                    with self.assertRaises(TooMany) as caught:
                        keeper.missing(Missing.OFFERS, ("rests",))
                    self.assertEqual(caught.exception.number, most)
            self.assertEqual(all_seen(keeper), before)


if __name__ == "__main__":
    unittest.main()
