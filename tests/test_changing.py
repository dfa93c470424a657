"""Section 14: at which moments a newer program may come in, beside plain searches."""

import itertools
import random
import unittest
from unittest import mock

from lastasked.errors import BadBars, BadLooks, BadMany, BadPrices, BadPrograms, BadStory, TooMany, Unfit
from lastasked.exchanging import barred, changing, shows_barred, shows_changing
from lastasked.led import led
from lastasked.moments import moments
from lastasked.rests import rests
from lastasked.stands import is_stand
from tests.helper import comes, deed, does, made
from tests.passages import OVER, fit_programs, is_wrong_over, judge_over, led_over, look_over, steps_over, word_over
from tests.searches import FIND
from tests.test_guarded import BAD_LOOKS, LOOKS
from tests.test_rests import WIDE, WIDE_DEEDS
from tests.test_stands import ANY, changed

ROWS = ("worths 2", "house", "  ask find", "    answer it", "screen", "  cell seen 0")
ENDS = ("  deed pick upto 1", "    ask find it", "  answer find")
# The newer one compares what comes with what is wanted, which it does not know of what was asked ahead of it.
ELDER = made(*ROWS, "  show seen", "  take find last", *ENDS, "    set seen it")
NEWER = made(*ROWS, "  cell want 0", "  show seen", ENDS[0], "    set want it", *ENDS[1:], "    if asked = want", "      set seen it")
# It calls off what was asked ahead of it and asks again for what is seen.
CAREFUL = made(*ROWS, "  cell want 0", "  show seen", ENDS[0], "    set want it", *ENDS[1:], "    if asked = want", "      set seen it", "  over", "    set want seen", "    off find")
PICK, OTHER = deed("pick", 1), deed("pick", 0)


class Told(unittest.TestCase):
    def told(self, programs, many, looks, bars=()):
        """What changing tells, laid beside the plain searches."""
        found = changing(programs, many, looks, bars=bars)
        results = [(look, look_over(programs, many, look, bars)) for look in looks]
        wrongs = [(look, result) for look, result in results if result[0] == "wrong"]
        if wrongs:
            self.assertEqual([type(found), len(found), found[:2], type(found[2]), len(found[2])], [tuple, 3, ("wrong", wrongs[0][0]), tuple, wrongs[0][1][1]])
            self.assertTrue(is_wrong_over(programs, many, found[1], bars, found[2]))
        else:
            self.assertEqual(repr(found), repr(("let", tuple(tuple(sorted(result[1])) for _, result in results))))
        self.assertIs(shows_changing(programs, many, looks, found, bars=bars), True)
        return found

    def shows(self, wanted, programs, many, looks, value, bars=()):
        self.assertIs(shows_changing(programs, many, looks, value, bars=bars), wanted, value)
        self.assertIs(judge(programs, many, looks, value, bars), wanted, value)


def judge(programs, many, looks, value, bars=()):
    """A plain second judge."""
    if type(value) is not tuple or len(value) not in (2, 3) or value[0] != ("let" if len(value) == 2 else "wrong"):
        return False
    if len(value) == 3:
        return type(value[1]) is str and value[1] in looks and is_wrong_over(programs, many, value[1], bars, value[2])
    if type(value[1]) is not tuple or len(value[1]) != len(looks):
        return False
    return all(judge_over(programs, many, look, bars, table) for look, table in zip(looks, value[1]))


class Changing(Told):
    def test_wrong_and_let(self):
        for many in (1, 2, 3):
            self.assertEqual(self.told((ELDER, NEWER), many, ("rests",))[:2], ("wrong", "rests"))
            self.assertEqual(self.told((ELDER, NEWER), many, ("rests",), ("find",))[0], "let")
            self.assertEqual(self.told((ELDER, ELDER), many, LOOKS)[0], "let")
            self.assertEqual(self.told((NEWER, NEWER), many, LOOKS)[0], "let")

    def test_its_tables(self):
        still = made("worths 2", "house", "  ask find", "screen", "  cell x 0", "  show x", "  deed go", "    set x 1")
        turn = made("worths 2", "house", "  ask find", "screen", "  cell y 0", "  cell x 0", "  show x", "  deed go", "    set y 0")
        first = ((0, ((), (0,), (), ()), ((), (0,))), (0, ((), (1,), (), ()), ((), (1,))))
        behind = ((1, ((), (0, 0), (), ()), ((), (0, 0))), (1, ((), (0, 1), (), ()), ((), (0, 1))))
        self.assertEqual(repr(self.told((still, turn), 1, ("rests",))), repr(("let", (first + behind,))))
        found = self.told((still, turn), 1, ("moments",))
        self.assertIn(first[1] + ((1,), True, True), found[1][0])
        self.assertIn(behind[1] + ((0,), True, False), found[1][0])

    def test_the_way_of_an_exchange(self):
        # The newer one shows another cell: what it shows was so, as it is on the way of the exchange.
        elder = made("worths 4", "house", "  ask find", "    answer it", "screen", "  cell x 0", "  cell y 3", "  show x", "  send find one", "  deed go", "    ask find 1", "  answer find", "    set x it")
        newer = made("worths 4", "house", "  ask find", "    answer it", "screen", "  cell x 0", "  cell y 3", "  show y", "  send find one", "  deed go", "    ask find 1", "  answer find", "    set x it")
        self.assertEqual(self.told((elder, newer), 1, LOOKS)[0], "let")
        # The other way about the elder one is not up to date, and shows what was never so.
        found = self.told((newer, elder), 1, LOOKS)
        self.assertEqual([found[1], word_over((newer, elder), led_over((newer, elder), 1, (), found[2]))], ["moments", "never"])
        steps = led_over((elder, newer), 1, (), (deed("go"), OVER, does(0), comes(0)))
        self.assertEqual([word_over((elder, newer), steps[:n]) for n in range(5)], [""] * 5)
        # What was under way comes to the cell that is shown now: x was shown as 1 once, so y as 1 is elder, not never.
        late = made("worths 4", "house", "  ask find", "    answer it", "screen", "  cell x 0", "  cell y 3", "  show y", "  send find one", "  deed go", "    ask find 1", "  answer find", "    set y it", "    set x it")
        found = self.told((elder, late), 1, ("moments", "rests"))
        self.assertEqual(found[:2], ("wrong", "moments"))
        self.assertEqual(word_over((elder, late), led_over((elder, late), 1, (), found[2])), "elder")

    def test_was_and_since_go_over(self):
        # Behind the exchange the screen is up to date, so the elder's answer falls back.
        rows = ("worths 3", "house", "  ask find", "    answer it", "screen", "  cell x 0", "  show x")
        elder = made(*rows, "  take find last", "  deed type upto 2", "    ask find it", "  answer find", "    set x it")
        newer = made(*rows, "  take find last", "  deed type upto 2", "    ask find it", "  answer find", "    set x it", "  over", "    ask find 0")
        self.assertEqual(self.told((elder, newer), 2, ("moments", "rests"))[0], "let")
        anew = made(*rows, "  take find last", "  deed type upto 2", "    ask find it", "  answer find", "    set x it", "  over", "    anew")
        found = self.told((elder, anew), 2, ("moments",))
        self.assertEqual(found[:2], ("wrong", "moments"))
        self.assertEqual(word_over((elder, anew), led_over((elder, anew), 2, (), found[2])), "elder")
        self.assertEqual([move[0] for move in found[2]].count("over"), 1)

    def test_three_programs(self):
        self.assertEqual(self.told((ELDER, ELDER, ELDER), 2, ("moments", "rests"))[0], "let")
        for programs in ((ELDER, ELDER, NEWER), (ELDER, NEWER, NEWER), (ELDER, NEWER, ELDER), (NEWER, ELDER, NEWER)):
            self.assertEqual(self.told(programs, 2, ("rests",))[:2], ("wrong", "rests"), programs)
        found = self.told((ELDER, ELDER, NEWER), 2, ("rests",))
        self.assertEqual([move for move in found[2] if move == OVER], [OVER, OVER])
        self.assertEqual(self.told((NEWER, NEWER, ELDER), 2, ("rests",))[0], self.told((NEWER, ELDER), 2, ("rests",))[0])

    def test_bars(self):
        rows = ("worths 2", "house", "  ask find", "    answer it", "  ask save", "screen", "  cell seen 0")
        ends = ("  deed pick upto 1", "    ask find it", "  deed keep", "    ask save 1", "  answer find")
        elder = made(*rows, "  show seen", "  take find last", *ends, "    set seen it")
        newer = made(*rows, "  cell want 0", "  show seen", ends[0], "    set want it", *ends[1:], "    if asked = want", "      set seen it")
        for bars, word in (((), "wrong"), (("save",), "wrong"), (("find",), "let"), (("find", "save"), "let")):
            self.assertEqual(self.told((elder, newer), 2, ("rests",), bars)[0], word)
        table = changing((elder, newer), 2, ("rests",), bars=("find",))[1][0]
        # save's task goes over, find's does not.
        self.assertTrue([member for member in table if member[0] == 1 and any(task[0] == "save" for task in member[1][3])])

    def test_bars_count_off_tasks(self):
        # What is off is there until it is done or lost.
        rows = ("worths 2", "house", "  ask find", "    answer it", "screen", "  cell x 0")
        elder = made(*rows, "  show x", "  deed pick", "    ask find 1", "    off find")
        newer = made(*rows, "  cell y 0", "  show x", "  deed pick", "    set y 0")
        let = changing((elder, newer), 2, ("rests",))[1][0]
        barred_ = changing((elder, newer), 2, ("rests",), bars=("find",))[1][0]
        self.told((elder, newer), 2, ("rests",))
        self.told((elder, newer), 2, ("rests",), ("find",))
        self.assertEqual([len([member for member in table if member[0] == 1]) for table in (let, barred_)], [3, 1])

    def test_room(self):
        # With one ask under way over cannot ask, so it comes only at rests.
        rows = ("worths 2", "house", "  ask find", "    answer it", "screen", "  cell x 0", "  show x", "  take find last", "  deed pick upto 1", "    ask find it", "  answer find", "    set x it")
        elder, newer = made(*rows), made(*rows, "  over", "    ask find x")
        self.assertEqual(self.told((elder, newer), 1, ("moments", "rests"))[0], "let")
        # With two it asks for what is seen, while another one is wanted.
        self.assertEqual(self.told((elder, newer), 2, ("rests",))[0], "wrong")

    def test_careful(self):
        self.told((ELDER, CAREFUL), 2, LOOKS)
        self.told((CAREFUL, ELDER), 2, LOOKS)
        self.told((ELDER, CAREFUL, ELDER), 2, ("rests",))

    def test_houses(self):
        rows = ("worths 2", "house", "  cell n 0", "  ask put", "    set n it", "screen", "  cell x 0", "  show x")
        elder = made(*rows, "  deed flip upto 1", "    set x it", "    ask put it")
        one = made(*rows, "  send put queued", "  deed flip upto 1", "    set x it", "    ask put it")
        queued = made(*rows, "  send put queued", "  deed flip upto 1", "    set x it", "    ask put it", "  over", "    ask put x")
        self.assertRaises(Unfit, changing, (elder, one), 2, ("houses",))
        self.assertEqual(self.told((one, queued), 2, ("houses", "rests"))[0], "let")
        loose = made(*rows, "  send put one", "  deed flip", "    set x 0", "  over", "    off put")
        # What is called off may be done or be lost: the house hangs on it, what is shown does not.
        self.assertEqual(self.told((one, loose), 2, ("rests",))[0], "let")
        self.assertEqual(self.told((one, loose), 2, ("houses", "rests"))[:2], ("wrong", "houses"))
        self.assertEqual(self.told((one, loose), 2, ("houses", "rests"), ("put",))[0], "let")

    def test_the_first_wrong_look(self):
        self.assertEqual(self.told((ELDER, NEWER), 2, ("houses", "moments", "rests"))[1], "houses")
        self.assertEqual(self.told((ELDER, NEWER), 2, ("moments", "rests"))[1], "rests")

    def test_led_takes_no_over(self):
        with self.assertRaises(BadStory) as caught:
            led(ELDER, 2, (PICK, OVER))
        self.assertEqual(caught.exception.number, 2)

    def test_drawn(self):
        count = {}
        for seed in range(3000, 3060):
            draw = random.Random(seed)
            many = draw.randint(1, 2)
            looks = tuple(sorted(draw.sample(LOOKS, draw.randint(1, 2))))
            programs = fit_programs(seed, draw.choice((2, 2, 3)), many, looks[0])
            if not programs or not all(is_fit_by(program, many, looks) for program in programs):
                continue
            bars = tuple(sorted(draw.sample([ask[0] for ask in programs[0].asks], draw.randint(0, 1))))
            # Only those that come to few members are laid beside the plain search.
            if ("many",) in [look_over(programs, many, look, bars, 600) for look in looks]:
                continue
            word = self.told(programs, many, looks, bars)[0]
            count[word] = count.get(word, 0) + 1
        self.assertGreater(min(count.values()), 5)
        self.assertGreater(sum(count.values()), 25)


def is_fit_by(program, many, looks):
    try:
        results = [moments(program, many) if look == "moments" else rests(program, many, houses=look == "houses") for look in looks]
    except TooMany:
        return False
    return all(result[0] == "right" for result in results)


class ShowsChanging(Told):
    STORY = (PICK, OVER, does(0), comes(0))

    def test_stories(self):
        turn = (PICK, does(0), comes(0), OTHER, does(0), comes(0))
        for story, wanted in ((self.STORY, True), (turn + self.STORY, True), (turn * 9 + self.STORY, True), ((PICK, does(0), OVER, comes(0)), True), (self.STORY[:-1], False), ((PICK, OVER), False),
                              ((PICK, does(0), comes(0), OVER), False), ((OVER,) + self.STORY, False), ((PICK, OVER, OVER, does(0), comes(0)), False), ((OVER, PICK, does(0), comes(0)), False), ((), False),
                              ((PICK, ("over", 0), does(0), comes(0)), False), ((PICK, ["over"], does(0), comes(0)), False), (list(self.STORY), False), ((PICK, "over", does(0), comes(0)), False)):
            self.shows(wanted, (ELDER, NEWER), 2, ("rests",), ("wrong", "rests", story))
            self.shows(False, (ELDER, NEWER), 2, ("rests",), ("wrong", "rests", story), ("find",))
            self.shows(False, (ELDER, NEWER), 2, ("rests",), ("wrong", "rests", story, "elder"))
            self.shows(False, (ELDER, NEWER), 2, ("rests",), ("let", story))
        self.shows(True, (ELDER, ELDER, NEWER), 2, ("rests",), ("wrong", "rests", (PICK, OVER, OVER, does(0), comes(0))))
        self.shows(False, (ELDER, ELDER, NEWER), 2, ("rests",), ("wrong", "rests", self.STORY))

    def test_any_look_of_looks(self):
        for look in LOOKS + ("over", "", None, 0, ("rests",), ["rests"]):
            self.shows(look in ("houses", "rests"), (ELDER, NEWER), 2, LOOKS, ("wrong", look, self.STORY))
            self.shows(look == "rests", (ELDER, NEWER), 2, ("rests",), ("wrong", look, self.STORY))
            self.shows(False, (ELDER, NEWER), 2, ("moments",), ("wrong", look, self.STORY))

    def test_moments(self):
        rows = ("worths 3", "house", "  ask find", "    answer it", "screen", "  cell x 0", "  show x", "  take find last", "  deed type upto 2", "    ask find it", "  answer find", "    set x it")
        programs = (made(*rows), made(*rows, "  over", "    anew"))
        found = changing(programs, 2, ("moments",))
        self.shows(True, programs, 2, ("moments",), found)
        for n in range(len(found[2])):
            self.shows(False, programs, 2, ("moments",), ("wrong", "moments", found[2][:n]))
        self.shows(True, programs, 2, ("moments",), ("wrong", "moments", (deed("type"), does(0), comes(0)) + found[2]))

    def test_what_was_so_at_first(self):
        # It is the first program that tells it: the newer one's x is 1 at first, but keeps what it was.
        rows = ("worths 3", "house", "  ask find", "    answer it", "screen")
        more = ("  show x", "  take find last", "  deed type upto 2", "    ask find it", "  answer find", "    set x it")
        programs = (made(*rows, "  cell x 0", *more), made(*rows, "  cell x 1", *more))
        for story in ((deed("type", 2),), (deed("type", 2), OVER), (OVER, deed("type", 2)), (OVER, deed("type", 1), deed("type", 2)), (deed("type", 2), OVER, does(0))):
            for look in ("moments", "rests"):
                self.shows(False, programs, 2, ("moments", "rests"), ("wrong", look, story))
        self.assertEqual(self.told(programs, 2, LOOKS)[0], "let")
        self.assertEqual(self.told(programs[::-1], 2, LOOKS)[0], "let")

    def test_unfit_programs(self):
        # It judges what is told alone: neither Unfit nor TooMany is raised.
        find = made(*FIND)
        story = (deed("type", 1), deed("type", 0), does(0), does(1), comes(1), comes(0))
        self.shows(True, (find, find), 2, ("rests",), ("wrong", "rests", story))
        self.shows(True, (find, find), 2, ("rests",), ("wrong", "rests", story[:3] + (OVER,) + story[3:]))
        self.shows(False, (find, find), 2, ("rests",), ("let", ((),)))
        wide = made(*WIDE, "  show a", *WIDE_DEEDS)
        self.assertIs(shows_changing((wide, wide), 4, ("moments", "rests"), ("let", ((), ()))), False)
        self.assertIs(shows_barred((wide, wide), 4, ("moments", "rests"), (1,), ("none", ())), False)

    def test_tables(self):
        tables = changing((ELDER, NEWER), 2, ("houses", "rests"), bars=("find",))[1]
        table = tables[0]
        for n in range(0, len(table), 3):
            for other in (table[:n] + table[n + 1:], table[:n] + table[n:n + 1] + table[n:], table[:n] + table[n:n + 2][::-1] + table[n + 2:] if n + 1 < len(table) else ()):
                self.shows(False, (ELDER, NEWER), 2, ("houses", "rests"), ("let", (other, tables[1])), ("find",))
                self.shows(False, (ELDER, NEWER), 2, ("houses", "rests"), ("let", (tables[0], other)), ("find",))
        for other in (tables[:1], tables * 2, list(tables), (tables[0], list(tables[1])), (tables[0], ()), (), None, (tables[0], tables[1][::-1])):
            self.shows(False, (ELDER, NEWER), 2, ("houses", "rests"), ("let", other), ("find",))
        self.shows(True, (ELDER, NEWER), 2, ("houses", "rests"), ("let", tables), ("find",))
        # Without the bar it is not closed, and the other program's stands are none of this one.
        self.shows(False, (ELDER, NEWER), 2, ("houses", "rests"), ("let", tables))
        self.shows(False, (ELDER, NEWER), 2, ("houses", "rests"), ("let", tuple(tuple(member[1:] for member in one) for one in tables)), ("find",))
        self.shows(False, (ELDER, NEWER), 2, ("houses", "rests"), ("let", tuple(tuple((0,) + member[1:] for member in one) for one in tables)), ("find",))
        self.shows(False, (ELDER, NEWER, NEWER), 2, ("houses", "rests"), ("let", tables), ("find",))

    def test_bars(self):
        # A table for no bars is closed with each bar, too.
        tables = changing((ELDER, ELDER), 2, ("moments", "rests"))
        self.shows(True, (ELDER, ELDER), 2, ("moments", "rests"), tables)
        self.shows(True, (ELDER, ELDER), 2, ("moments", "rests"), tables, ("find",))
        barred_ = changing((ELDER, ELDER), 2, ("moments", "rests"), bars=("find",))
        same = repr(barred_) == repr(tables)
        self.shows(same, (ELDER, ELDER), 2, ("moments", "rests"), barred_)

    def test_greater_closed_tables(self):
        larger = 0
        for seed in range(3100, 3160):
            programs = fit_programs(seed, 2, 1)
            draw = random.Random(seed)
            if not programs:
                continue
            found = changing(programs, 1, ("rests",))
            if found[0] == "wrong" or len(found[1][0]) > 80:
                continue
            others = [(number, stand) for number, known, _ in found[1][0] for stand in changed(known) if is_stand(programs[number], stand)]
            for number, stand in draw.sample(others, min(3, len(others))):
                plain = (tuple(draw.randrange(programs[0].worths) for _ in programs[0].house), tuple(draw.randrange(programs[0].worths) for _ in programs[number].cells))
                more, left = {(number, stand, plain)}, [(number, stand, plain)]
                while left and len(more) < 200:
                    for step in steps_over(programs, 1, (), *left.pop()):
                        if step[1:4] not in more:
                            more.add(step[1:4])
                            left.append(step[1:4])
                value = ("let", (tuple(sorted(more | set(found[1][0]))),))
                wanted = judge(programs, 1, ("rests",), value)
                self.shows(wanted, programs, 1, ("rests",), value)
                larger += wanted and len(value[1][0]) > len(found[1][0])
        self.assertGreater(larger, 8)

    def test_one_thing_otherwise(self):
        still = made("worths 2", "house", "  ask find", "screen", "  cell x 0", "  show x", "  deed go", "    set x 1")
        turn = made("worths 2", "house", "  ask find", "screen", "  cell y 0", "  cell x 0", "  show x", "  deed go", "    set y 0")
        for looks in (("rests",), ("moments",)):
            found = changing((still, turn), 1, looks)
            for value in changed(found):
                if repr(value) != repr(found):
                    self.shows(judge((still, turn), 1, looks, value), (still, turn), 1, looks, value)
        told = ("wrong", "rests", self.STORY)
        for value in changed(told):
            self.shows(judge((ELDER, NEWER), 1, LOOKS, value), (ELDER, NEWER), 1, LOOKS, value)

    def test_any(self):
        for value in ANY:
            for told in (value, ("let", value), ("let", (value,)), ("let", ((value,),)), ("wrong", "rests", value), ("wrong", value, self.STORY), ("wrong", "rests", (value,)), (value, "rests", self.STORY), ("let", (((0, value, value),),))):
                self.shows(False, (ELDER, NEWER), 2, ("rests",), told)


def bars_of(programs, prices):
    """(price, bars) in their sequence."""
    price = dict(zip([ask[0] for ask in programs[0].asks], prices))
    found = [bars for many in range(len(price) + 1) for bars in itertools.combinations(sorted(price), many)]
    return sorted((sum(price[ask] for ask in bars), bars) for bars in found)


def judge_barred(programs, many, looks, prices, value):
    rows = bars_of(programs, prices)
    if type(value) is not tuple or len(value) not in (2, 5) or value[0] != ("none" if len(value) == 2 else "bars"):
        return False
    if len(value) == 5:
        places = [n for n, row in enumerate(rows) if repr(row) == repr(value[1:3])]
        if not places or not judge(programs, many, looks, ("let", value[3]), rows[places[0]][1]):
            return False
        rows = rows[:places[0]]
    if type(value[-1]) is not tuple or len(value[-1]) != len(rows):
        return False
    for reason, (_, bars) in zip(value[-1], rows):
        if type(reason) is not tuple or len(reason) != 3 or repr(reason[0]) != repr(bars) or not judge(programs, many, looks, ("wrong",) + reason[1:], bars):
            return False
    return True


TWO_ROWS = ("worths 2", "house", "  ask find", "    answer it", "  ask also", "    answer it", "screen", "  cell seen 0")
TWO_ENDS = ("  deed pick upto 1", "    ask find it", "  deed more upto 1", "    ask also it", "  answer find")
TWO_ELDER = made(*TWO_ROWS, "  show seen", "  take find last", *TWO_ENDS[:2], *TWO_ENDS[4:], "    set seen it")
TWO_NEWER = made(*TWO_ROWS, "  cell want 0", "  show seen", TWO_ENDS[0], "    set want it", TWO_ENDS[1], *TWO_ENDS[4:], "    if asked = want", "      set seen it")


class Barred(Told):
    def told_barred(self, programs, many, looks, prices):
        found = barred(programs, many, looks, prices)
        reasons = []
        for price, bars in bars_of(programs, prices):
            result = self.told(programs, many, looks, bars)
            if result[0] == "let":
                wanted = ("bars", price, bars, result[1], tuple(reasons))
                break
            reasons.append((bars,) + result[1:])
        else:
            wanted = ("none", tuple(reasons))
        # Any story of fewest moves is told, but here they are found alike.
        self.assertEqual(repr(found), repr(wanted))
        self.assertIs(shows_barred(programs, many, looks, prices, found), True)
        self.assertTrue(judge_barred(programs, many, looks, prices, found))
        return found

    def test_by_price(self):
        self.assertEqual(self.told_barred((ELDER, NEWER), 2, ("rests",), (3,))[:3], ("bars", 3, ("find",)))
        found = self.told_barred((TWO_ELDER, TWO_NEWER), 2, ("rests",), (9, 1))
        self.assertEqual([found[:3], [reason[0] for reason in found[4]]], [("bars", 9, ("find",)), [(), ("also",)]])
        found = self.told_barred((TWO_ELDER, TWO_NEWER), 2, ("rests",), (1, 9))
        self.assertEqual([found[:3], [reason[0] for reason in found[4]]], [("bars", 1, ("find",)), [()]])
        # Of one price as tuples.
        found = self.told_barred((TWO_ELDER, TWO_NEWER), 2, ("rests",), (2, 2))
        self.assertEqual([reason[0] for reason in found[4]], [(), ("also",)])

    def test_no_bar(self):
        found = self.told_barred((ELDER, ELDER), 2, ("moments", "rests"), (1,))
        self.assertEqual([found[:3], found[4], len(found[3])], [("bars", 0, ()), (), 2])

    def test_none(self):
        falls = made("worths 3", "house", "  ask find", "    answer it", "screen", "  cell x 0", "  show x", "  deed go", "    ask find 1", "  answer find", "    set x it")
        # The answer that over asks for is shown later than what a deed shows by then.
        late = made("worths 3", "house", "  ask find", "    answer it", "screen", "  cell x 0", "  show x", "  take find last", "  deed go", "    set x 1", "  answer find", "    set x it", "  over", "    ask find 2")
        found = self.told_barred((falls, late), 2, ("rests",), (4,))
        self.assertEqual([found[0], [reason[:2] for reason in found[1]]], ["none", [((), "rests"), (("find",), "rests")]])
        # Of two asks, of which the first one stands behind the other as a name.
        two = [made("worths 3", "house", "  ask find", "    answer it", "  ask also", *program.text.split("\n")[4:]) for program in (falls, late)]
        found = self.told_barred(tuple(two), 2, ("rests",), (1, 2))
        self.assertEqual([reason[0] for reason in found[1]], [(), ("find",), ("also",), ("also", "find")])
        found = self.told_barred(tuple(two), 2, ("rests",), (3, 2))
        self.assertEqual([reason[0] for reason in found[1]], [(), ("also",), ("find",), ("also", "find")])

    def test_several_looks(self):
        found = self.told_barred((ELDER, NEWER), 2, LOOKS, (5,))
        self.assertEqual([found[:3], [reason[:2] for reason in found[4]], len(found[3])], [("bars", 5, ("find",)), [((), "houses")], 3])
        found = self.told_barred((ELDER, NEWER), 2, ("moments", "rests"), (5,))
        self.assertEqual([reason[:2] for reason in found[4]], [((), "rests")])

    def test_three_programs(self):
        self.assertEqual(self.told_barred((ELDER, NEWER, ELDER), 1, ("rests",), (5,))[0], "bars")

    def shows_barred(self, wanted, programs, many, looks, prices, value):
        self.assertIs(shows_barred(programs, many, looks, prices, value), wanted, value)
        self.assertIs(judge_barred(programs, many, looks, prices, value), wanted, value)

    def test_shows(self):
        programs, looks, prices = (TWO_ELDER, TWO_NEWER), ("houses", "rests"), (2, 1)
        found = barred(programs, 1, looks, prices)
        self.assertEqual([found[:3], [reason[0] for reason in found[4]]], [("bars", 2, ("find",)), [(), ("also",)]])
        self.shows_barred(True, programs, 1, looks, prices, found)
        for price in (0, 1, 3, True, None, "2", (2,)):
            self.shows_barred(False, programs, 1, looks, prices, ("bars", price) + found[2:])
        for bars in ((), ("also",), ("also", "find"), ("find", "also"), ["find"], "find", None, ("find", "find"), ("save",)):
            self.shows_barred(False, programs, 1, looks, prices, found[:2] + (bars,) + found[3:])
        for prices_ in ((2, 2), (1, 2), (2, 3), (9, 1)):
            self.shows_barred(judge_barred(programs, 1, looks, prices_, found), programs, 1, looks, prices_, found)
        reasons = found[4]
        for other in ((), reasons[:1], reasons[::-1], reasons * 2, list(reasons), (reasons[0], list(reasons[1])), (reasons[0], reasons[1][:2]), (reasons[0], (("also",),) + reasons[0][1:]), (reasons[0], ((),) + reasons[1][1:]), None):
            value = found[:4] + (other,)
            self.shows_barred(judge_barred(programs, 1, looks, prices, value), programs, 1, looks, prices, value)
        # Any look of looks by which the story is wrong.
        for look in LOOKS + (None, 0):
            self.shows_barred(look in looks, programs, 1, looks, prices, found[:4] + ((reasons[0][:1] + (look,) + reasons[0][2:], reasons[1]),))
        # Longer stories.
        turn = (PICK, does(0), comes(0), OTHER, does(0), comes(0))
        self.shows_barred(True, programs, 1, looks, prices, found[:4] + (tuple(reason[:2] + (turn + reason[2],) for reason in reasons),))
        for n in range(2):
            for table in (found[3][n][1:], found[3][n][::-1], found[3][n] * 2, list(found[3][n]), ()):
                self.shows_barred(False, programs, 1, looks, prices, found[:3] + (found[3][:n] + (table,) + found[3][n + 1:], reasons))
        self.shows_barred(False, programs, 1, looks, prices, ("none", reasons))
        self.shows_barred(False, programs, 1, looks, prices, ("choice",) + found[1:])

    def test_shows_none(self):
        falls = made("worths 3", "house", "  ask find", "    answer it", "screen", "  cell x 0", "  show x", "  deed go", "    ask find 1", "  answer find", "    set x it")
        late = made("worths 3", "house", "  ask find", "    answer it", "screen", "  cell x 0", "  show x", "  take find last", "  deed go", "    set x 1", "  answer find", "    set x it", "  over", "    ask find 2")
        found = barred((falls, late), 2, ("rests",), (4,))
        self.shows_barred(True, (falls, late), 2, ("rests",), (4,), found)
        for value in changed(found):
            self.shows_barred(judge_barred((falls, late), 2, ("rests",), (4,), value), (falls, late), 2, ("rests",), (4,), value)
        for value in ANY:
            for told in (value, ("none", value), ("none", (value,)), ("none", (value, value)), ("bars", value, (), (), ()), ("bars",) + (value,) * 4):
                self.shows_barred(False, (falls, late), 2, ("rests",), (4,), told)


class Errors(unittest.TestCase):
    BOTH = (ELDER, NEWER)

    def fails(self, error, value, programs, many, looks, bars=(), prices=(1,)):
        """changing and barred, and their judges, raise alike, but what tells of bars and prices."""
        calls = []
        if error is not BadPrices:
            calls += [lambda: changing(programs, many, looks, bars=bars), lambda: shows_changing(programs, many, looks, None, bars=bars)]
        if error is not BadBars:
            calls += [lambda: barred(programs, many, looks, prices), lambda: shows_barred(programs, many, looks, prices, None)]
        for call in calls:
            with self.assertRaises(error) as caught:
                call()
            self.assertIs(caught.exception.value, value)

    def test_programs(self):
        worths = made("worths 3", *ROWS[1:], "  show seen", *ENDS, "    set seen it")
        house = made(*ROWS[:3], "    answer 0", *ROWS[4:], "  show seen", *ENDS, "    set seen it")
        order = made(*ROWS[:2], "  in order", *ROWS[2:], "  show seen", *ENDS, "    set seen it")
        named = made(*ROWS[:2], "  ask look", *ROWS[3:], "  show seen", "  deed pick", "    ask look 0")
        more = made(*ROWS[:4], "  ask more", *ROWS[4:], "  show seen", *ENDS, "    set seen it")
        cell = made(*ROWS[:2], "  cell n 0", *ROWS[2:], "  show seen", *ENDS, "    set seen it")
        two = made(*ROWS, "  cell want 0", "  show seen want", *ENDS, "    set seen it")
        for other in (worths, house, order, named, more, cell, two):
            for value in ((ELDER, other), (other, ELDER), (ELDER, NEWER, other), (other, NEWER, ELDER), (ELDER, other, NEWER)):
                self.fails(BadPrograms, value, value, 2, ("rests",))
        for value in ((), (ELDER,), (ELDER,) * 4, [ELDER, NEWER], (ELDER, NEWER, None), (ELDER, NEWER.text), (ELDER.text, NEWER.text), (None, NEWER), {ELDER.text: NEWER}, ELDER, (ELDER, (NEWER,)), ((ELDER, NEWER),)) + ANY:
            self.fails(BadPrograms, value, value, 2, ("rests",))

    def test_many_and_looks(self):
        for value in (0, 5, -1, True, False, None, "1", (1,), [1], {1: 1}):
            self.fails(BadMany, value, self.BOTH, value, ("rests",))
        for value in BAD_LOOKS + ANY:
            self.fails(BadLooks, value, self.BOTH, 2, value)

    def test_bars(self):
        for value in (["find"], ("find", "find"), ("save",), ("seen",), ("",), (None,), (0,), "find", None, 0, True, {"find": 1}, (("find",),), ("find", "save"), {}):
            self.fails(BadBars, value, self.BOTH, 2, ("rests",), bars=value)
        two = (TWO_ELDER, TWO_NEWER)
        for value in (("find", "also"), ("also", "also"), ("also", "find", "find"), ("also", "find", "save")):
            self.fails(BadBars, value, two, 2, ("rests",), bars=value)
        self.assertEqual(changing(two, 1, ("rests",), bars=("also", "find"))[0], "let")

    def test_prices(self):
        for value in ((), (1, 1), (0,), (10,), (-1,), (True,), ("1",), (None,), [1], 1, None, {"find": 1}, ((1,),), "1", True):
            self.fails(BadPrices, value, self.BOTH, 2, ("rests",), prices=value)
        for value in ((1,), (1, 1, 1), (1, 0), (9, 10)):
            self.fails(BadPrices, value, (TWO_ELDER, TWO_NEWER), 2, ("rests",), prices=value)

    def test_several_at_once(self):
        one = (ELDER,)
        self.fails(BadPrograms, one, one, 0, (), bars=None, prices=())
        self.fails(BadMany, 0, self.BOTH, 0, (), bars=None, prices=())
        self.fails(BadMany, 5, self.BOTH, 5, ("rests",), bars=None, prices=())
        looks = ("rest",)
        self.fails(BadLooks, looks, self.BOTH, 2, looks, bars=None, prices=())
        unfit = (made(*FIND), made(*FIND))
        self.fails(BadBars, None, unfit, 2, ("rests",), bars=None)
        prices = ()
        self.fails(BadPrices, prices, unfit, 2, ("rests",), prices=prices)

    def test_unfit(self):
        find, last = made(*FIND), made(*FIND[:7], "  take find last", *FIND[7:])
        for programs, number in (((find, last), 0), ((last, find), 1), ((last, last, find), 2), ((last, find, find), 1), ((find, find, find), 0)):
            for call in (lambda: changing(programs, 2, ("rests",)), lambda: barred(programs, 2, ("rests",), (1,)), lambda: changing(programs, 2, ("moments", "rests"), bars=("find",))):
                with self.assertRaises(Unfit) as caught:
                    call()
                self.assertEqual(repr(caught.exception.number), repr(number))
            self.assertIs(shows_changing(programs, 2, ("rests",), ("let", ())), False)
        # With one ask under way they are right, and by other looks they may be.
        self.assertIn(changing((find, find), 1, ("rests",))[0], ("let", "wrong"))
        rising = made(*FIND[:7], "  take find rising", *FIND[7:])
        self.assertRaises(Unfit, changing, (rising, rising), 2, ("moments",))
        self.assertEqual(changing((rising, rising), 2, ("rests",))[0], "let")

    def test_too_many(self):
        wide = made(*WIDE, "  show a", *WIDE_DEEDS)
        wrong = made(*WIDE, "  show a", *WIDE_DEEDS, "  answer find", "    if asked = 1", "      set b a", "    else", "      set a b")
        for programs in ((wide, wide), (wide, wrong)):
            for call in (lambda: changing(programs, 2, ("rests",)), lambda: barred(programs, 2, ("rests",), (1,))):
                with self.assertRaises(TooMany) as caught:
                    call()
                self.assertEqual(repr(caught.exception.number), "6000")
        # The first program that is not right is told ahead of what comes behind it.
        self.assertRaises(Unfit, changing, (wrong, wide), 2, ("rests",))

    def test_just_so_many(self):
        # All programs' members count together; of each alone only its own.
        sizes = [len(rests(program, 2)[1]) for program in (ELDER, ELDER)] + [len(changing((ELDER, ELDER), 2, ("rests",))[1][0])]
        self.assertGreater(sizes[2], sizes[0])
        for most in (sizes[0] - 1, sizes[0], sizes[2] - 1, sizes[2]):
            with mock.patch("lastasked.tables.MOST_MEMBERS", most):
                if most < sizes[2]:
                    with self.assertRaises(TooMany) as caught:
                        changing((ELDER, ELDER), 2, ("rests",))
                    self.assertEqual(caught.exception.number, most)
                else:
                    self.assertEqual(changing((ELDER, ELDER), 2, ("rests",))[0], "let")

    def test_by_name(self):
        found = changing(programs=self.BOTH, many=2, looks=("rests",), bars=("find",))
        self.assertEqual(repr(found), repr(changing(self.BOTH, 2, ("rests",), bars=("find",))))
        self.assertIs(shows_changing(programs=self.BOTH, many=2, looks=("rests",), value=found, bars=("find",)), True)
        found = barred(programs=self.BOTH, many=2, looks=("rests",), prices=(1,))
        self.assertEqual(repr(found), repr(barred(self.BOTH, 2, ("rests",), (1,))))
        self.assertIs(shows_barred(programs=self.BOTH, many=2, looks=("rests",), prices=(1,), value=found), True)
        with self.assertRaises(TypeError):
            changing(self.BOTH, 2, ("rests",), ())


if __name__ == "__main__":
    unittest.main()
