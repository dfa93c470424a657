"""Section 14: what goes over as a newer program comes in, beside a plain second reading."""

import random
import unittest

from lastasked.errors import NoMove
from lastasked.keeper import Keeper
from lastasked.moves import after, moves
from lastasked.plain import plain_after, plain_first
from lastasked.stands import first_stand, is_stand, shown
from tests.helper import comes, deed, does, gone, made, sends
from tests.passages import drawn_programs, led_over, plain_over, stand_over, word_over

HOUSE = ("worths 4", "house", "  ask load", "    answer it", "  ask save", "    answer it")


class Told(unittest.TestCase):
    def over(self, elder, newer, *story, many=4):
        """The keeper behind the story and the exchange, laid beside the second reading."""
        keeper = Keeper(elder, many)
        for move in story:
            keeper.do(move)
        stand, plain = keeper.stand, keeper.plain
        self.assertEqual(keeper.exchange(newer), keeper.shown)
        self.assertEqual(repr(keeper.stand), repr(stand_over(elder, newer, stand)))
        self.assertEqual(repr(keeper.plain), repr(plain_over(elder, newer, plain)[0]))
        self.assertIs(is_stand(newer, keeper.stand), True)
        self.assertEqual(keeper.shown, shown(newer, keeper.stand))
        return keeper


class Cells(Told):
    def test_by_names(self):
        # In another sequence; v is new, u goes.
        elder = made(*HOUSE, "screen", "  cell u 1", "  cell x 0", "  cell y 0", "  show x", "  deed go", "    set x 2", "    set y 3", "    set u 2")
        newer = made(*HOUSE, "screen", "  cell y 1", "  cell v 1", "  cell x 1", "  show y", "  deed go", "    set y 0")
        keeper = self.over(elder, newer, deed("go"))
        self.assertEqual([keeper.stand, keeper.plain, keeper.shown, keeper.plain_shown], [((), (3, 1, 2), (), ()), ((), (3, 1, 2)), (3,), (3,)])
        # What went is as at first when it comes in again.
        keeper.exchange(elder)
        self.assertEqual(keeper.stand, ((), (1, 2, 3), (), ()))

    def test_kept_and_redone(self):
        rows = (*HOUSE, "screen", "  cell x 1", "  show x")
        more = ("  deed pick upto 3", "    ask save it guess x + it", "    add x 1", "  answer save", "    add x 2")
        kept, redone = made(*rows, *more), made(*rows, "  back x redone", *more)
        story = (deed("pick", 2), deed("pick", 3))
        # The worth is 1 + 2 + 1 + 3 + 1; the guesses are nothing any more, what is written stays.
        keeper = self.over(redone, kept, *story)
        self.assertEqual(keeper.stand[1], (0,))
        self.assertEqual([task[5] for task in keeper.stand[3]], [(), ()])
        keeper = self.over(kept, redone, *story)
        self.assertEqual(keeper.stand[1], ((0, ()),))
        self.assertEqual([task[5] for task in keeper.stand[3]], [(), ()])
        # Refused or not, they take nothing back.
        for move in (does(0), comes(0)):
            keeper.do(move)
        self.assertEqual(keeper.stand[1], ((2, ()),))

    def test_both_alike(self):
        rows = (*HOUSE, "screen", "  cell x 1", "  cell y 0", "  show x")
        more = ("  back x redone", "  deed pick upto 3", "    ask save it guess x + it guess y = it", "    add x 1")
        elder, newer = made(*rows, *more), made(*rows[:7], "  cell y 2", "  cell x 3", "  show x", *more, "  over", "    set x 2")
        keeper = self.over(elder, newer, deed("pick", 2), deed("pick", 3))
        self.assertEqual(keeper.stand[1], (3, (1, (("add", 2, 0), ("add", 1, -1), ("add", 3, 1), ("set", 2, -1)))))
        self.assertEqual([task[5] for task in keeper.stand[3]], [(("y", 0),), (("y", 2),)])

    def test_guesses_in_the_sequence_of_the_newer_one(self):
        elder = made(*HOUSE, "screen", "  cell a 0", "  cell b 1", "  cell c 2", "  show a", "  deed pick", "    ask save 1 guess a = 3 guess c = 3")
        for cells, wanted in ((("c", "b", "a"), (("c", 2), ("a", 0))), (("a", "b"), (("a", 0),)), (("b", "c"), (("c", 2),)), (("b",), ()), (("d", "c", "a"), (("c", 2), ("a", 0)))):
            newer = made(*HOUSE, "screen", *[f"  cell {name} 0" for name in cells], f"  show {cells[0]}", "  deed go", "    anew")
            self.assertEqual(self.over(elder, newer, deed("pick")).stand[3][0][5], wanted)
            if "c" in cells:
                newer = made(*HOUSE, "screen", *[f"  cell {name} 0" for name in cells], f"  show {cells[0]}", "  back c redone", "  deed go", "    anew")
                self.assertEqual(self.over(elder, newer, deed("pick")).stand[3][0][5], tuple(row for row in wanted if row[0] != "c"))

    def test_what_is_taken_back_behind_it(self):
        elder = made("worths 4", "house", "  ask save", "    refuse", "screen", "  cell x 1", "  show x", "  deed pick", "    ask save 1 guess x = 3")
        newer = made("worths 4", "house", "  ask save", "    refuse", "screen", "  cell w 0", "  cell x 0", "  show x", "  deed pick", "    set w 1")
        keeper = self.over(elder, newer, deed("pick"), does(0))
        self.assertEqual([keeper.shown, keeper.do(comes(0))], [(3,), (1,)])


class Stores(Told):
    def test_asks_that_both_keep(self):
        cells = ("screen", "  cell x 0", "  show x")
        deeds = ("  deed get upto 3", "    ask load it", "    ask save it")
        words = {"none": (), "only": ("only",), "both": ("both",)}
        for load in words:
            for save in words:
                elder = made(*HOUSE, *cells, "  keep load only", "  keep save both", *deeds)
                keeps = [f"  keep {ask} {word}" for ask, word in (("load", load), ("save", save)) if word != "none"]
                newer = made(*HOUSE, *cells, *keeps, *deeds)
                story = (deed("get", 2), does(0), comes(0), does(0), comes(0))
                keeper = self.over(elder, newer, *story)
                self.assertEqual(keeper.stand[2], (((2, 2),),) * len(keeps))
                # What only one keeps is not there, and is empty.
                back = self.over(newer, elder, *story).stand[2]
                self.assertEqual(back, tuple(((2, 2),) if word != "none" else () for word in (load, save)))


class Held(Told):
    """Held tasks of save beside each word of send in the newer program; load is many and queued."""

    ROWS = (*HOUSE, "screen", "  cell x 0", "  show x")
    MORE = ("  deed pick upto 3", "    ask save it guess x + it", "  deed get", "    ask load 1 guess x + 1")

    def test_each_word(self):
        elder = made(*self.ROWS, "  send save queued", *self.MORE)
        story = (deed("pick", 1), deed("pick", 2), deed("get"), deed("pick", 3))
        out, load = ("save", 1, "out", 0, "live", (("x", 0),)), ("load", 1, "out", 0, "live", (("x", 3),))
        two, three = ("save", 2, "held", 0, "live", (("x", 1),)), ("save", 3, "held", 0, "live", (("x", 0),))
        for word, wanted, x in (("queued", (out, load, two, three), 3), ("latest", (out, load, three), 1), ("resting", (out, load, three), 1),
                                ("one", (out, load, two[:2] + ("out",) + two[3:], three[:2] + ("out",) + three[3:]), 3), ("", (out, load, two[:2] + ("out",) + two[3:], three[:2] + ("out",) + three[3:]), 3)):
            newer = made(*self.ROWS, *((f"  send save {word}",) if word else ()), *self.MORE)
            keeper = self.over(elder, newer, *story)
            self.assertEqual(keeper.stand[3], wanted, word)
            # Ahead of it x is 0 + 1 + 2 + 1 + 3; pick 2's guess had 1.
            self.assertEqual(keeper.stand[1], (x,), word)

    def test_redone(self):
        elder = made(*self.ROWS, "  send save queued", "  back x redone", *self.MORE)
        story = (deed("pick", 1), deed("pick", 2), deed("get"), deed("pick", 3))
        for word in ("latest", "resting"):
            newer = made(*self.ROWS, f"  send save {word}", "  back x redone", *self.MORE)
            self.assertEqual(self.over(elder, newer, *story).stand[1], ((0, (("add", 1, 0), ("add", 1, 1), ("add", 3, 2))),))
        for word in ("", "  send save one"):
            newer = made(*self.ROWS, *((word,) if word else ()), "  back x redone", *self.MORE)
            self.assertEqual(self.over(elder, newer, *story).stand[1], ((0, (("add", 1, 0), ("add", 2, 2), ("add", 1, 1), ("add", 3, 3))),))

    def test_rows_are_put_together(self):
        # What stood between two guesses that go becomes one.
        rows = (*HOUSE, "screen", "  cell x 0", "  show x")
        more = ("  back x redone", "  deed pick upto 3", "    ask save it guess x + it", "    add x 1")
        elder, newer = made(*rows, "  send save queued", *more), made(*rows, "  send save resting", *more)
        keeper = self.over(elder, newer, deed("pick", 1), deed("pick", 2), deed("pick", 3), deed("pick", 3))
        self.assertEqual(keeper.stand[1], ((0, (("add", 1, 0), ("add", 3, -1), ("add", 3, 1), ("add", 1, -1))),))

    def test_of_all_that_go_the_last_first(self):
        rows = (*HOUSE, "screen", "  cell x 0", "  show x")
        more = ("  deed pick upto 3", "    ask save it guess x = it", "  deed both", "    ask save 2 guess x = 2", "    ask load 3 guess x = 3")
        elder = made(*rows, "  send load queued", "  send save queued", *more)
        for word in ("latest", "resting"):
            newer = made(*rows, f"  send load {word}", f"  send save {word}", *more)
            # x was 0, 1, 2, 3 and is 0: pick 3's guess had 2, and pick 2's, which goes behind it, had 1.
            keeper = self.over(elder, newer, deed("pick", 1), deed("pick", 2), deed("pick", 3), deed("pick", 0))
            self.assertEqual([keeper.stand[1], [task[1] for task in keeper.stand[3]]], [(1,), [1, 0]])
        # Across asks, too: load's goes first, then save's, which had 3.
        slow = made(*rows, "  send load queued", "  send save queued", "  deed all", "    ask save 1 guess x = 1", "    ask load 2 guess x = 2")
        quick = made(*rows, "  send load resting", "  send save resting", "  deed all", "    ask save 1 guess x = 1", "    ask load 2 guess x = 2")
        stand = ((), (2,), (), (("save", 1, "held", 0, "live", (("x", 3),)), ("load", 2, "held", 0, "live", (("x", 1),)), ("save", 1, "held", 0, "live", (("x", 0),)), ("load", 2, "held", 0, "live", (("x", 0),))))
        self.assertTrue(is_stand(slow, stand))
        keeper = Keeper(slow, 4)
        keeper.pages[0].stand = keeper.stand = stand
        keeper.exchange(quick)
        self.assertEqual(repr(keeper.stand), repr(stand_over(slow, quick, stand)))
        self.assertEqual([keeper.stand[1], keeper.stand[3]], [(3,), stand[3][2:]])

    def test_marks_stay(self):
        # A held one that is passed stays so; take of the newer one changes no mark.
        elder = made(*self.ROWS, "  take save last", "  send save queued", *self.MORE)
        newer = made(*self.ROWS, "  take load last", *self.MORE)
        keeper = self.over(elder, newer, deed("pick", 1), deed("pick", 2), deed("pick", 3))
        self.assertEqual([task[1:5] for task in keeper.stand[3]], [(1, "out", 0, "passed"), (2, "out", 0, "passed"), (3, "out", 0, "live")])
        last = made(*self.ROWS, "  take save last", *self.MORE)
        keeper = self.over(made(*self.ROWS, *self.MORE), last, deed("pick", 1), deed("pick", 2))
        self.assertEqual([task[4] for task in keeper.stand[3]], ["live", "live"])

    def test_phases_stay(self):
        elder = made(*self.ROWS, *self.MORE, "  deed stop", "    off save")
        keeper = self.over(elder, made(*self.ROWS, "  send save one", *self.MORE), deed("pick", 1), deed("stop"), deed("get"), does(1), deed("pick", 2))
        self.assertEqual([task[:5] for task in keeper.stand[3]], [("save", 1, "out", 0, "off"), ("load", 1, "answered", 1, "live"), ("save", 2, "out", 0, "live")])
        self.assertIn(gone(0), keeper.moves())

    def test_a_latest_one_stays_held(self):
        # Held alone it may go out behind the exchange at once.
        elder, newer = made(*self.ROWS, "  send save resting", *self.MORE), made(*self.ROWS, "  send save latest", *self.MORE)
        keeper = self.over(elder, newer, deed("pick", 1))
        self.assertEqual(keeper.stand[3][0][2], "held")
        self.assertIn(sends(0), keeper.moves())


class Over(Told):
    ROWS = ("worths 4", "house", "  cell n 3", "  ask load", "    answer n", "  ask save", "    set n it", "    answer it", "screen", "  cell x 0", "  cell y 1", "  show x")
    ELDER = made(*ROWS, "  deed pick upto 3", "    set x it", "    ask save it guess y + 1")

    def newer(self, *over, words=(), handlers=()):
        return made(*self.ROWS, *words, "  deed pick upto 3", "    set x it", "    ask save it guess y + 1", *handlers, *[f"  {row}" for row in over])

    def test_writes_and_ifs(self):
        for it, x, y in ((2, 2, 3), (3, 0, 2)):
            newer = self.newer("over", "  if x = 3", "    set x 0", "  else", "    add y x", "    if y = 0", "      set y 3")
            keeper = self.over(self.ELDER, newer, deed("pick", it))
            self.assertEqual(keeper.stand[1], (x, {2: 3, 3: 2}[it]) if it == 3 else (2, 3))

    def test_asks(self):
        newer = self.newer("over", "  ask load x guess y = x", handlers=("  answer load", "    set x it"))
        keeper = self.over(self.ELDER, newer, deed("pick", 2), many=2)
        self.assertEqual([keeper.stand[1], keeper.stand[3][1]], [(2, 2), ("load", 2, "out", 0, "live", (("y", 2),))])
        # In the plain meaning it is done at once: the house's n is 2 by then.
        self.assertEqual(keeper.plain, ((2,), (2, 2)))
        self.assertEqual(plain_over(self.ELDER, newer, ((1,), (3, 1))), (((1,), (1, 3)), ((3,), (1,))))
        # Sends of the newer one hold for it.
        queued = self.newer("over", "  ask save 0", words=("  send save queued",))
        self.assertEqual([task[2] for task in self.over(self.ELDER, queued, deed("pick", 2)).stand[3]], ["out", "held"])
        one = self.newer("over", "  ask save 0 guess y = 3", words=("  send save one",))
        self.assertEqual(len(self.over(self.ELDER, one, deed("pick", 2)).stand[3]), 1)
        last = self.newer("over", "  ask save 0", words=("  take save last",))
        self.assertEqual([task[4] for task in self.over(self.ELDER, last, deed("pick", 2)).stand[3]], ["passed", "live"])

    def test_answered_from_stores(self):
        for word in ("only", "both"):
            elder = made(*self.ROWS, "  keep save both", "  deed pick upto 3", "    set x it", "    ask save it")
            newer = self.newer("over", "  ask save x guess y = 3", words=(f"  keep save {word}",), handlers=("  answer save", "    add x asked"))
            keeper = self.over(elder, newer, deed("pick", 1), does(0), comes(0))
            self.assertEqual([keeper.stand[1], keeper.stand[2], len(keeper.stand[3])], [(2, 3), (((1, 1),),), 0 if word == "only" else 1])
            # Not stored for another worth.
            keeper = self.over(elder, newer, deed("pick", 1), does(0), comes(0), deed("pick", 2))
            self.assertEqual([keeper.stand[1][0], len(keeper.stand[3])], [2, 2])

    def test_off_forget_anew(self):
        keeper = self.over(self.ELDER, self.newer("over", "  off save"), deed("pick", 2), deed("pick", 3))
        self.assertEqual([keeper.stand[1], [task[4] for task in keeper.stand[3]]], [(3, 1), ["off", "off"]])
        keeper = self.over(self.ELDER, self.newer("over", "  anew"), deed("pick", 2))
        self.assertEqual([keeper.stand[1], keeper.stand[3][0][5], keeper.plain], [(0, 1), (), ((2,), (0, 1))])
        elder = made(*self.ROWS, "  keep save both", "  deed pick upto 3", "    set x it", "    ask save it")
        keeper = self.over(elder, self.newer("over", "  forget save", words=("  keep save only",)), deed("pick", 1), does(0), comes(0))
        self.assertEqual(keeper.stand[2], ((),))

    def test_without_over(self):
        keeper = self.over(self.ELDER, self.ELDER, deed("pick", 2))
        self.assertEqual([keeper.stand[1], keeper.plain], [(2, 2), ((2,), (2, 2))])

    def test_room(self):
        newer = self.newer("over", "  ask load x")
        for many in (1, 2):
            keeper = Keeper(self.ELDER, many)
            self.assertEqual(keeper.exchange(newer), (0,))
            self.assertEqual(len(keeper.stand[3]), 1)
            keeper = Keeper(self.ELDER, many)
            keeper.do(deed("pick", 1))
            if many == 1:
                with self.assertRaises(NoMove) as caught:
                    keeper.exchange(newer)
                self.assertEqual(repr(caught.exception.value), "('over',)")
                self.assertEqual(keeper.programs, (self.ELDER,))
            else:
                keeper.exchange(newer)
        # What is stored lets more tasks come than may be under way; an exchange asks for room then, which its over may make.
        more = ("worths 2", "house", "  ask first", "  ask second", "  ask third", "screen", "  cell x 0", "  show x", "  keep second both", "  deed go", "    ask first 0",
                "  deed fill", "    ask second 0", "  answer first", "    ask second 0", "  answer second", "    ask third 0")
        elder, newer = made(*more), made(*more, "  over", "    off second", "    off third")
        keeper = Keeper(elder, 1)
        for move in (deed("fill"), does(0), comes(0), does(0), comes(0), deed("go"), does(0), comes(0)):
            keeper.do(move)
        self.assertEqual([task[:3] for task in keeper.stand[3]], [("second", 0, "out"), ("third", 0, "out")])
        for program in (elder, newer):
            self.assertRaises(NoMove, keeper.exchange, program)
        keeper.do(does(0))
        self.assertRaises(NoMove, keeper.exchange, elder)
        keeper.exchange(newer)
        self.assertEqual([task[:5] for task in keeper.stand[3]], [("third", 0, "out", 0, "off")])

    def test_room_that_held_ones_make(self):
        rows = (*HOUSE, "screen", "  cell x 0", "  show x")
        elder = made(*rows, "  send save queued", "  deed pick upto 3", "    ask save it")
        newer = made(*rows, "  send save resting", "  deed pick upto 3", "    ask save it", "  over", "    ask load 1")
        # Three tasks, of which one goes, and one more is asked for.
        keeper = self.over(elder, newer, deed("pick", 1), deed("pick", 2), deed("pick", 3), many=3)
        self.assertEqual([task[:3] for task in keeper.stand[3]], [("save", 1, "out"), ("load", 1, "out"), ("save", 3, "held")])

    def test_its_way(self):
        # What is shown behind the exchange and over's handler, then behind each answer.
        newer = self.newer("over", "  set x 1", "  ask load 0", handlers=("  answer load", "    set x it"))
        self.assertEqual(plain_over(self.ELDER, newer, ((3,), (0, 1)))[1], ((1,), (3,)))
        steps = led_over((self.ELDER, newer), 2, (), (("over",), does(0), comes(0)))
        self.assertEqual([step[4] for step in steps], [((1,), (3,)), (), ()])
        self.assertEqual([word_over((self.ELDER, newer), steps[:n]) for n in range(4)], ["", "", "", ""])


class Drawn(Told):
    def test_second_reading(self):
        held = fewer = more = 0
        for seed in range(2000, 2350):
            programs = drawn_programs(seed)
            if not programs:
                continue
            elder, newer = programs
            draw, stand, plain = random.Random(seed), first_stand(elder), plain_first(elder)
            for step in range(12):
                keeper = Keeper(elder, 4)
                wanted, later = stand_over(elder, newer, stand), plain_over(elder, newer, plain)
                keeper.pages[0].stand, keeper.pages[0].plain, keeper.stand, keeper.plain = stand, plain, stand, plain
                if len(wanted[3]) > 4:
                    self.assertRaises(NoMove, keeper.exchange, newer)
                    more += 1
                else:
                    keeper.exchange(newer)
                    self.assertEqual(repr([keeper.stand, keeper.plain, keeper.pages[1].way]), repr([wanted, later[0], later[1]]), (elder.text, newer.text, stand))
                    self.assertIs(is_stand(newer, keeper.stand), True)
                held += any(task[2] == "held" for task in stand[3])
                fewer += len(wanted[3]) < len(stand[3])
                move = draw.choice(moves(elder, stand, 4))
                if move[0] == "deed":
                    plain = plain_after(elder, plain, move[1], move[2])[0]
                stand = after(elder, stand, move)
        self.assertGreater(held, 500)
        self.assertGreater(fewer, 60)
        self.assertGreater(more, 60)


if __name__ == "__main__":
    unittest.main()
