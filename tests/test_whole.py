"""What the document promises over the whole program: arguments, errors in their sequence, and the guarantees across functions."""

import random
import unittest

from lastasked import counting, exchanging, fronts, guards, guesses, lasting, led, moments, moves, plain, rests, stands, steady, stories
from lastasked.desk import Desk
from lastasked.errors import (
    BadBars, BadDeeds, BadLooks, BadMany, BadOffers, BadPrices, BadPrograms, BadStory, LateError, NoMove, NotCounted, TooMany)
from lastasked.journals import read_journal
from lastasked.keeper import Keeper, shows_outlook
from lastasked.programs import Program
from lastasked.texts import read_story, show_story
from tests.helper import comes, deed, does, made, text_of, tree_of
from tests.marks import stands_by_moves
from tests.passages import OVER, fit_programs
from tests.searches import FIND, Counted, Lean, lean_programs
from tests.test_guarded import LOOKS
from tests.test_keeper import LAST, STORY, TYPE, all_seen, kept
from tests.test_stands import ANY

OFFERS = ((("order",), 1),)
STAND = stands.first_stand(TYPE)
NO_MANY = (0, 5, -1, 10 ** 17, True, False, None, "1", "", (1,), [1], {1: 1}, (), {})

# Each function with parameters behind its program, each parameter with a good value.
CALLS = {
    moves.moves: {"stand": STAND, "many": 2}, led.led: {"many": 2, "story": ()}, rests.rests: {"many": 2}, rests.shows_rests: {"many": 2, "value": 0}, moments.moments: {"many": 2},
    moments.shows_moments: {"many": 2, "value": 0}, counting.least_many: {"many": 2}, counting.shows_least_many: {"many": 2, "value": 0}, lasting.lasting: {"many": 2},
    lasting.shows_lasting: {"many": 2, "value": 0}, guards.guarded: {"offers": OFFERS, "many": 2, "looks": ("rests",)}, guards.shows_guarded: {"offers": OFFERS, "many": 2, "looks": ("rests",), "value": 0},
    fronts.front: {"offers": OFFERS, "many": 2, "looks": ("rests",)}, fronts.shows_front: {"offers": OFFERS, "many": 2, "looks": ("rests",), "value": 0}, guesses.upon: {"many": 2},
    guesses.shows_upon: {"many": 2, "value": 0}, steady.steady: {"many": 2}, steady.shows_steady: {"many": 2, "value": 0}, stories.needed: {"many": 2, "looks": ("rests",), "deeds": ()},
    stories.shows_needed: {"many": 2, "looks": ("rests",), "deeds": (), "value": 0}}
PASSING = {
    exchanging.changing: {"many": 2, "looks": ("rests",)}, exchanging.shows_changing: {"many": 2, "looks": ("rests",), "value": 0}, exchanging.barred: {"many": 2, "looks": ("rests",), "prices": (1,)},
    exchanging.shows_barred: {"many": 2, "looks": ("rests",), "prices": (1,), "value": 0}}
DEEDS = (rests.rests, rests.shows_rests, moments.moments, moments.shows_moments, guards.guarded, guards.shows_guarded)


def all_calls():
    """(function, its named arguments) with a program, or with programs."""
    for call, names in CALLS.items():
        yield call, {"program": TYPE, **names}
    for call, names in PASSING.items():
        yield call, {"programs": (LAST, LAST), **names}


class Arguments(unittest.TestCase):
    def test_by_position_and_by_names(self):
        for call, names in all_calls():
            with self.subTest(call.__name__):
                self.assertEqual(repr(call(*names.values())), repr(call(**names)))
                half = list(names)[:1]
                self.assertEqual(repr(call(names[half[0]], **{name: names[name] for name in names if name not in half})), repr(call(**names)))
        found = rests.rests(TYPE, 2)
        for names in ({"houses": True}, {"deeds": STORY[:2]}, {"houses": True, "deeds": STORY[:1]}):
            told = rests.rests(TYPE, 2, **names)
            self.assertIs(rests.shows_rests(TYPE, 2, told, **names), True)
            self.assertIs(rests.shows_rests(TYPE, 2, value=found, deeds=()), False)
        with self.assertRaises(TypeError):
            rests.rests(TYPE, 2, True)
        with self.assertRaises(TypeError):
            lasting.lasting(TYPE, 2, False)

    def test_others_by_name(self):
        self.assertEqual(moves.after(program=TYPE, stand=STAND, move=deed("type", 1)), moves.after(TYPE, STAND, deed("type", 1)))
        self.assertEqual(plain.plain_after(program=TYPE, plain=((), (0,)), name="type", it=2), plain.plain_after(TYPE, ((), (0,)), "type", 2))
        self.assertEqual(plain.plain_shown(program=TYPE, plain=((), (2,))), (2,))
        self.assertEqual(plain.plain_first(program=TYPE), ((), (0,)))
        self.assertEqual(counting.ever(program=LAST), counting.ever(LAST))
        self.assertIs(counting.shows_ever(program=LAST, value=counting.ever(LAST)), True)
        self.assertEqual(guards.with_guards(program=TYPE, guards=(("take", "find", "last"),)), LAST)

    def test_equal_calls(self):
        for call, names in all_calls():
            self.assertEqual(repr(call(**names)), repr(call(**names)))
            again = {name: Program(value.text) if name == "program" else value for name, value in names.items()}
            self.assertEqual(repr(call(**again)), repr(call(**names)))

    def test_what_is_handed_in_stays(self):
        for call, names in all_calls():
            if "value" in names:
                for value in ([["right", [0]]], {"right": [1, (2, [3])]}, ("right", [((), [0])]), ("wrong", [deed("type")], {"never": []}), ("none", [()])):
                    before = repr(value)
                    self.assertIs(call(**{**names, "value": value}), False)
                    self.assertEqual(repr(value), before)
            self.assertEqual([TYPE.text, LAST.text, OFFERS], ["\n".join(FIND), "\n".join(FIND[:7] + ("  take find last",) + FIND[7:]), ((("order",), 1),)])

    def test_any_value(self):
        deep = 0
        for n in range(30):
            deep = (deep,) if n % 3 else [deep] if n % 2 else {"deep": deep}
        for call, names in all_calls():
            if "value" not in names:
                continue
            for value in ANY + (deep, ("right", deep), ("wrong", deep), ("wrong", deep, deep), ("most", deep, deep, deep), ("endless", deep, deep), ("from", deep, deep, deep), ("front", deep, deep), ("none", deep), ("choice",) + (deep,) * 4, (deep, deep),
                                ("steady", deep), ("parts", deep, deep, deep), ("deeds",) + (deep,) * 4, ("let", deep), ("bars",) + (deep,) * 4, ("let", (deep,)), ("right", (deep,)), ("right", ((deep, deep),)), (((deep, deep, deep, deep),), (deep,))):
                self.assertIs(call(**{**names, "value": value}), False, (call, value))
        keeper = kept(TYPE, 2, *STORY[:2])
        for value in ANY + (deep, ("sure", deep), ("open", deep), ("sure", (deep,)), ("open", (deep, deep)), ("sure", ((deep, deep),))):
            self.assertIs(shows_outlook(keeper, value), False)


class Errors(unittest.TestCase):
    def fails(self, error, value, call, names):
        with self.assertRaises(error) as caught:
            call(**names)
        self.assertIs(caught.exception.value, value, (call, names))

    def test_bad_many(self):
        for value in NO_MANY:
            for call, names in all_calls():
                self.fails(BadMany, value, call, {**names, "many": value})
            self.fails(BadMany, value, Keeper, {"program": TYPE, "many": value})

    def test_bad_looks(self):
        for value in ((), ("rests", "moments"), ("rests", "rests"), ["rests"], None, "rests", ("ever",), (("rests",),)):
            for call, names in all_calls():
                if "looks" in names:
                    self.fails(BadLooks, value, call, {**names, "looks": value})

    def test_bad_deeds(self):
        for value in ((deed("type"),) * 9, (deed("type", 3),), [deed("type")], (OVER,), 0, False, (), "deeds", {}, (None,)):
            for call, names in all_calls():
                if call in DEEDS and value != ():
                    self.fails(BadDeeds, value, call, {**names, "deeds": value})
                if call in (stories.needed, stories.shows_needed) and value != ():
                    self.fails(BadDeeds, value, call, {**names, "deeds": value})

    def test_bad_stories(self):
        for value, number in (((), None), (None, 0), ([], 0), ((OVER,), 1), ((deed("type"), OVER), 2), ((deed("type"), does(0), comes(1)), 3), ((None,), 1), ("deed type", 0)):
            if number is not None:
                with self.assertRaises(BadStory) as caught:
                    led.led(TYPE, 2, value)
                self.assertEqual(caught.exception.number, number)
        with self.assertRaises(BadMany):
            led.led(TYPE, 0, None)

    def test_no_moves(self):
        keeper, desk = kept(TYPE, 1, deed("type", 1)), Desk(kept(TYPE, 1, deed("type", 1)).journal)
        for value in (deed("type", 3), comes(0), OVER, None, 0, (), [], ("does", 1), ("does", True)):
            for call in (lambda: moves.after(TYPE, STAND, value), lambda: keeper.do(value)):
                with self.assertRaises(NoMove) as caught:
                    call()
                self.assertIs(caught.exception.value, value)
        with self.assertRaises(NoMove):
            desk.say("comes 0")
        with self.assertRaises(NoMove) as caught:
            plain.plain_after(TYPE, ((), (0,)), "type", 3)
        self.assertEqual(caught.exception.value, ("type", 3))

    def test_several_at_once(self):
        nine, looks, bars = (deed("type"),) * 9, ("rest",), ["find"]
        for call, names in all_calls():
            bad = {**names, "many": 5}
            first, value = BadMany, 5
            if "looks" in names:
                bad["looks"] = looks
            if "offers" in names:
                bad["offers"] = ()
                first, value = BadOffers, bad["offers"]
            if call in DEEDS + (stories.needed, stories.shows_needed):
                bad["deeds"] = nine
            if "programs" in names:
                if "prices" in names:
                    bad["prices"] = ()
                else:
                    bad["bars"] = bars
                self.fails(BadPrograms, (), call, {**bad, "programs": ()})
            self.fails(first, value, call, bad)
            if "offers" in bad:
                bad["offers"] = OFFERS
                self.fails(BadMany, 5, call, bad)
            bad["many"] = 1
            if "looks" in bad:
                self.fails(BadLooks, looks, call, bad)
                bad["looks"] = ("rests",)
            if "deeds" in bad:
                self.fails(BadDeeds, nine, call, bad)
            if "bars" in bad:
                self.fails(BadBars, bars, call, bad)
            if "prices" in bad:
                self.fails(BadPrices, (), call, bad)

    def test_all_are_late_errors(self):
        for call in (lambda: Program(None), lambda: Keeper(TYPE, 0), lambda: Desk(""), lambda: read_story("x"), lambda: show_story(0), lambda: read_journal(0), lambda: counting.ever(made(*FIND[:7], "  take find rising", *FIND[7:])),
                     lambda: Keeper(TYPE, 1).undo(), lambda: Keeper(TYPE, 1).redo()):
            self.assertRaises(LateError, call)
            self.assertRaises(ValueError, call)


def told(call):
    try:
        return call()[0]
    except TooMany:
        return "many"


def written_out(program):
    """The same program with a deed for each worth of an upto; None if these are too many."""
    tree = tree_of(program.text)
    screen = []
    for words, below in tree[2][1]:
        if words[0] == "deed" and len(words) > 2:
            for it in range(int(words[3]) + 1):
                screen.append((["deed", words[1] + "abcd"[it]], put_in(below, str(it))))
        else:
            screen.append((words, below))
    if len([words for words, _ in screen if words[0] == "deed"]) > 3:
        return None
    return Program(text_of([tree[0], tree[1], (tree[2][0], screen)]))


def put_in(lines, it):
    return [([words[0]] + [it if word == "it" else word for word in words[1:]], put_in(below, it)) for words, below in lines]


class Guarantees(unittest.TestCase):
    """Section 3, across functions."""

    def test_deeds_written_out(self):
        count = {}
        for seed, program in lean_programs(range(6000, 6120)):
            other = written_out(program)
            if other is None or other == program:
                continue
            for many in (1, 2):
                for call in (rests.rests, moments.moments, steady.steady, lasting.lasting, lambda one, number: lasting.lasting(one, number, hands=False)):
                    one, two = told(lambda: call(program, many)), told(lambda: call(other, many))
                    self.assertEqual(one, two)
                    count[one] = count.get(one, 0) + 1
                    if one in ("right", "most") and call is not lasting.lasting:
                        self.assertEqual(len(call(program, many)[1]) if one == "right" else call(program, many)[1], len(call(other, many)[1]) if one == "right" else call(other, many)[1])
        self.assertGreater(min(count.get(word, 0) for word in ("right", "wrong", "steady", "most")), 10)
        for seed, program in lean_programs(range(6120, 6160), Counted):
            other = written_out(program)
            if other is not None and other != program:
                self.assertEqual(self.ever(program), self.ever(other))

    def ever(self, program):
        try:
            found = counting.ever(program)
        except NotCounted:
            return "not counted"
        except TooMany:
            return "many"
        return found[0], len(found[1])

    def test_halves_that_do_not_touch(self):
        # Both halves show one cell; together they are right just if each is.
        left = {word: ("  send one " + word,) if word else () for word in ("", "one", "latest", "queued")}
        right = {word: ("  take two " + word,) if word else () for word in ("", "last", "rising")}
        def half(ask, cell, deed_, sends, takes):
            return ("worths 2", "house", f"  ask {ask}", "    answer it", "screen", f"  cell {cell} 0", f"  show {cell}", *takes, *sends, f"  deed {deed_} upto 1", f"    ask {ask} it", f"  answer {ask}", f"    set {cell} it")
        for send, sends_ in left.items():
            for take, takes in right.items():
                both = made("worths 2", "house", "  ask one", "    answer it", "  ask two", "    answer it", "screen", "  cell a 0", "  cell b 0", "  show a b", *takes, *sends_, "  deed do upto 1", "    ask one it", "  deed go upto 1", "    ask two it",
                            "  answer one", "    set a it", "  answer two", "    set b it")
                one, two = made(*half("one", "a", "do", sends_, ())), made(*half("two", "b", "go", (), takes))
                for many in (1, 2):
                    words = [rests.rests(program, many)[0] for program in (one, two, both)]
                    self.assertEqual(words[2] == "right", words[:2] == ["right", "right"], (send, take, many))

    def test_a_story_is_one_for_each_greater_number(self):
        for seed, program in lean_programs(range(6200, 6260)):
            words = [told(lambda: rests.rests(program, many)) for many in (1, 2)]
            if words[0] == "wrong":
                story = rests.rests(program, 1)[1]
                for many in (2, 3, 4):
                    self.assertIs(rests.shows_rests(program, many, ("wrong", story)), True)
                    self.assertEqual(kept(program, many, *story).story, story)
                self.assertNotEqual(words[1], "right")

    def test_any_number(self):
        # What is told right for any number is so for each; otherwise the story is one of moments.
        count = {}
        for seed, program in lean_programs(range(6260, 6330), Counted):
            found = self.ever(program)
            if found[0] == "right":
                for many in (1, 2):
                    self.assertIn(told(lambda: moments.moments(program, many)), ("right", "many"))
            elif found[0] == "wrong":
                story = counting.ever(program)[1]
                self.assertIs(counting.shows_ever(program, counting.ever(program)), True)
                self.assertIn(kept(program, 4, *story).wrongs()[-1][1], ("never", "elder"))
            count[found[0]] = count.get(found[0], 0) + 1
        self.assertGreater(min(count.get(word, 0) for word in ("right", "wrong")), 5)

    def test_settled(self):
        # What is right by rests is steady, where it is shown: each rest shows what the plain meaning shows.
        for seed, program in lean_programs(range(6330, 6400)):
            if told(lambda: rests.rests(program, 2)) == "right" and told(lambda: steady.steady(program, 2)) == "parts":
                story = steady.steady(program, 2)[1]
                self.fail((program.text, story))

    def test_nothing_is_stuck(self):
        # Many bars no move that is no deed, and without deeds all comes to a rest; across exchanges, too.
        for seed in range(6400, 6440):
            programs = fit_programs(seed, 2, 1)
            draw = random.Random(seed)
            for one in programs:
                keeper = Keeper(one, 1)
                for n in range(12):
                    if not keeper.moves():
                        break
                    keeper.do(draw.choice(keeper.moves()))
                    if n == 6:
                        try:
                            keeper.exchange(draw.choice(programs))
                        except NoMove:
                            self.assertNotEqual(keeper.stand[3], ())
                    others = [move for move in keeper.moves() if move[0] != "deed"]
                    self.assertEqual(bool(others), bool(keeper.stand[3]))
                    self.assertEqual([move for move in moves.moves(keeper.program, keeper.stand, 4) if move[0] != "deed"], others)
                steps = 0
                while keeper.stand[3]:
                    keeper.do(draw.choice([move for move in keeper.moves() if move[0] != "deed"]))
                    steps += 1
                    self.assertLess(steps, 60)

    def test_exchanges(self):
        # What is let leads from whatever moment to what the plain meaning shows.
        let = 0
        for seed in range(6440, 6480):
            programs = fit_programs(seed, 2, 2)
            if not programs or told(lambda: exchanging.changing(programs, 2, ("rests",))) != "let":
                continue
            let += 1
            for n in range(12):
                draw = random.Random(1000 * seed + n)
                keeper = Keeper(programs[0], 2)
                for _ in range(draw.randint(0, 8)):
                    for move in draw.sample(keeper.moves(), min(1, len(keeper.moves()))):
                        keeper.do(move)
                try:
                    keeper.exchange(programs[1])
                except NoMove:
                    continue
                for _ in range(draw.randint(0, 3)):
                    keeper.do(draw.choice(keeper.moves()))
                while keeper.stand[3]:
                    keeper.do(draw.choice([move for move in keeper.moves() if move[0] != "deed"]))
                self.assertEqual(keeper.shown, keeper.plain_shown)
                self.assertEqual([word for number, word in keeper.wrongs() if word == "rest"], [])
        self.assertGreater(let, 8)

    def test_what_exchanges_tell_wrong(self):
        # The story is led by a keeper to its end.
        wrong = 0
        for seed in range(6480, 6520):
            for look in LOOKS:
                programs = fit_programs(seed, 2, 1, look)
                found = exchanging.changing(programs, 1, (look,)) if programs else ("none",)
                if found[0] != "wrong":
                    continue
                wrong += 1
                keeper = Keeper(programs[0], 1)
                for move in found[2]:
                    keeper.exchange(programs[1]) if move == OVER else keeper.do(move)
                self.assertEqual([keeper.story, keeper.programs], [found[2], programs])
                if look == "moments":
                    self.assertIn(keeper.wrongs()[-1][1], ("never", "elder"))
                    self.assertEqual(keeper.wrongs()[-1][0], len(found[2]))
                else:
                    self.assertEqual(keeper.stand[3], ())
                    self.assertTrue(keeper.shown != keeper.plain_shown or look == "houses" and keeper.stand[0] != keeper.plain[0])
                self.assertEqual(read_journal(keeper.journal), keeper)
        self.assertGreater(wrong, 20)


class Stories(unittest.TestCase):
    def test_told_led_and_read_back(self):
        count = 0
        for seed, program in lean_programs(range(6600, 6700)):
            for call in (lambda: rests.rests(program, 2), lambda: rests.rests(program, 2, houses=True), lambda: moments.moments(program, 2), lambda: steady.steady(program, 2), lambda: lasting.lasting(program, 2)):
                if told(call) not in ("wrong", "parts", "endless"):
                    continue
                story = call()[1]
                count += 1
                self.assertEqual(repr(read_story(show_story(story))), repr(story))
                keeper = kept(program, 2, *story)
                self.assertEqual((keeper.stand, keeper.plain), led.led(program, 2, story))
                journal = keeper.journal
                self.assertEqual(journal.split("\nstory\n")[1].replace("\n  ", "\n"), "  " + show_story(story))
                back = read_journal(journal)
                self.assertEqual(all_seen(back), all_seen(keeper))
                desk = Desk(Keeper(program, 2).journal)
                for row in show_story(story).split("\n"):
                    desk.say(row)
                self.assertEqual(desk.keeper, keeper)
        self.assertGreater(count, 60)

    def test_labels_of_steady_and_outlook(self):
        for seed, program in lean_programs(range(6700, 6740)):
            if len(stands_by_moves(program, 1)) > 120:
                continue
            found = steady.steady(program, 1)
            draw = random.Random(seed)
            keeper = Keeper(program, 1)
            for _ in range(8):
                keeper.do(draw.choice(keeper.moves()))
                outlook = keeper.outlook()
                if found[0] == "steady":
                    self.assertEqual(outlook[0], "sure")
                    self.assertTrue(set(outlook[1]) <= set(found[1]))
                    self.assertIs(shows_outlook(keeper, ("sure", found[1])), True)


if __name__ == "__main__":
    unittest.main()
