"""Section 17: desks."""

import random
import unittest
from unittest import mock

from lastasked.counting import ever
from lastasked.desk import Desk
from lastasked.errors import BadLine, BadText, LateError, NoMove, NotCounted, NothingToRedo, NothingToUndo, TooMany
from lastasked.keeper import Keeper
from lastasked.lasting import lasting
from lastasked.moments import moments
from lastasked.programs import Program
from lastasked.rests import rests
from lastasked.steady import steady
from tests.helper import comes, deed, does, drawn_text, made
from tests.searches import FIND, Counted, lean_programs
from tests.test_keeper import LAST, STORY, TYPE, all_seen, kept
from tests.test_stands import ANY
from tests.test_steady import UNSURE

HOUSE = made("worths 2", "house", "  cell n 0", "  ask put", "    set n it", "screen", "  cell v 0", "  cell w 1", "  show v w", "  deed flip upto 1", "    ask put it", "  deed still", "    set v 0")
WORDS = ("undo", "redo", "shown", "plain", "moves", "tasks", "wrongs", "outlook", "rests", "houses", "moments", "ever", "steady", "lasting", "lasting rest")


def desk_of(program, many, *story):
    return Desk(kept(program, many, *story).journal)


class Lines(unittest.TestCase):
    def test_its_keeper(self):
        keeper = kept(TYPE, 2, *STORY[:3])
        desk = Desk(keeper.journal)
        self.assertIs(type(desk.keeper), Keeper)
        self.assertEqual(desk.keeper, keeper)
        self.assertEqual(Desk(text=keeper.journal).say(line="shown"), "0")

    def test_moves(self):
        desk = desk_of(TYPE, 2)
        self.assertEqual([desk.say(line) for line in ("deed type 1", "deed type", "does 1", "does 0", "comes 1", "comes 0")], ["0"] * 5 + ["1"])
        self.assertEqual(desk.keeper.story, (deed("type", 1), deed("type"), does(1), does(0), comes(1), comes(0)))
        sent = made(*FIND[:7], "  send find resting", *FIND[7:])
        desk = desk_of(sent, 2)
        self.assertEqual([desk.say(line) for line in ("deed type 2", "sends 0", "does 0", "comes 0")], ["0", "0", "0", "2"])
        off = made(*FIND[:9], "    off find", *FIND[9:])
        desk = desk_of(off, 2)
        self.assertEqual([desk.say(line) for line in ("deed type 2", "gone 0", "tasks")], ["0", "0", "-"])

    def test_what_is_shown(self):
        self.assertEqual([desk_of(HOUSE, 1).say(line) for line in ("shown", "plain", "deed still")], ["0 1"] * 3)
        desk = desk_of(UNSURE, 2)
        self.assertEqual([desk.say(line) for line in ("deed type 1", "deed type", "does 0", "comes 0", "shown", "plain")], ["0", "0", "0", "-", "-", "0"])
        never = made("worths 2", "house", "  ask find", "screen", "  cell x 0", "  show x", "  unsure x = 0", "  deed go", "    set x 1")
        desk = desk_of(never, 1)
        self.assertEqual([desk.say(line) for line in ("shown", "plain", "deed go", "shown", "plain")], ["-", "-", "1", "1", "1"])
        desk = desk_of(TYPE, 2, *STORY[:1])
        self.assertEqual([desk.say("shown"), desk.say("plain")], ["0", "1"])

    def test_undo_and_redo(self):
        desk = desk_of(TYPE, 2, *STORY)
        self.assertEqual([desk.say(line) for line in ("undo", "shown", "undo", "shown", "redo", "shown", "redo", "shown")], ["ok", "2", "ok", "0", "ok", "2", "ok", "1"])
        with self.assertRaises(NothingToRedo):
            desk.say("redo")
        for _ in range(6):
            self.assertEqual(desk.say("undo"), "ok")
        with self.assertRaises(NothingToUndo):
            desk.say("undo")
        self.assertEqual(desk.say("redo"), "ok")
        desk.say("does 0")
        self.assertRaises(NothingToRedo, desk.say, "redo")

    def test_moves_that_are_possible(self):
        self.assertEqual(desk_of(TYPE, 2).say("moves"), "deed type; deed type 1; deed type 2")
        self.assertEqual(desk_of(TYPE, 2, *STORY[:2]).say("moves"), "does 0; does 1")
        self.assertEqual(desk_of(TYPE, 3, *STORY[:3]).say("moves"), "comes 0; deed type; deed type 1; deed type 2; does 1")
        # No deed is possible if each asks for more than may be under way.
        two = made("worths 2", "house", "  ask find", "screen", "  cell x 0", "  show x", "  deed go", "    ask find 0", "    ask find 1")
        self.assertEqual(desk_of(two, 1).say("moves"), "-")
        self.assertEqual(desk_of(two, 2).say("moves"), "deed go")

    def test_tasks(self):
        self.assertEqual(desk_of(TYPE, 2).say("tasks"), "-")
        self.assertEqual(desk_of(TYPE, 2, *STORY[:3]).say("tasks"), "find 1 answered 1 live; find 2 out 0 live")
        program = made("worths 4", "house", "  ask save", "    if it = 3", "      refuse", "    answer 2", "screen", "  cell x 0", "  show x", "  take save last", "  send save latest", "  back x redone", "  deed pick upto 3", "    ask save it guess x = it",
                       "  deed stop", "    off save")
        desk = desk_of(program, 3, deed("pick", 3), deed("pick", 1))
        self.assertEqual(desk.say("tasks"), "save 3 out 0 passed; save 1 held 0 live")
        desk.say("does 0")
        self.assertEqual(desk.say("tasks"), "save 3 refused 0 passed; save 1 held 0 live")
        desk = desk_of(program, 3, deed("pick", 2), deed("stop"), deed("pick", 1), does(1))
        self.assertEqual(desk.say("tasks"), "save 2 out 0 off; save 1 answered 2 live")

    def test_wrongs(self):
        self.assertEqual(desk_of(TYPE, 2).say("wrongs"), "-")
        self.assertEqual(desk_of(TYPE, 2, *STORY).say("wrongs"), "6 elder")
        desk = desk_of(TYPE, 3, *STORY, deed("type", 1))
        self.assertEqual(desk.say("wrongs"), "6 elder")
        desk = desk_of(made(*FIND[:7], "  send find one", *FIND[7:]), 2, deed("type", 1), deed("type", 2), does(0), comes(0))
        self.assertEqual(desk.say("wrongs"), "4 rest")
        desk.say("undo")
        self.assertEqual(desk.say("wrongs"), "-")
        desk = desk_of(TYPE, 3, deed("type", 1), deed("type", 2), does(0), does(1), comes(1), deed("type", 2), comes(0), does(0))
        self.assertEqual(desk.say("wrongs"), "7 elder; 8 elder")

    def test_outlook(self):
        self.assertEqual(desk_of(TYPE, 2).say("outlook"), "sure 0")
        self.assertEqual(desk_of(HOUSE, 2, deed("flip", 1)).say("outlook"), "sure 0 1")
        self.assertEqual(desk_of(TYPE, 3, deed("type", 2), deed("type"), deed("type", 1)).say("outlook"), "open 0; 1; 2")
        self.assertEqual(desk_of(UNSURE, 2, deed("type", 1), deed("type")).say("outlook"), "open -; 0")
        never = made(*FIND[:7], "  unsure x = 0", "  unsure x = 1", *FIND[7:])
        self.assertEqual(desk_of(never, 2, deed("type", 1)).say("outlook"), "sure -")
        pair = made("worths 2", "house", "  ask find", "    answer it", "screen", "  cell x 0", "  cell y 1", "  show y x", "  deed go upto 1", "    ask find it", "  answer find", "    set x it")
        self.assertEqual(desk_of(pair, 2, deed("go", 1), deed("go")).say("outlook"), "open 1 0; 1 1")

    def test_looks(self):
        self.assertEqual([desk_of(TYPE, 2).say(line) for line in ("rests", "houses", "moments", "ever", "steady", "lasting", "lasting rest")], ["wrong 6", "wrong 6", "wrong 4", "wrong", "parts", "1", "2"])
        self.assertEqual([desk_of(TYPE, 1).say(line) for line in ("rests", "houses", "moments", "steady")], ["right", "right", "right", "steady"])
        self.assertEqual([desk_of(LAST, 2).say(line) for line in ("rests", "houses", "moments", "ever", "steady", "lasting", "lasting rest")], ["right", "right", "right", "right", "steady", "endless", "1"])
        self.assertEqual([desk_of(HOUSE, 2).say(line) for line in ("rests", "houses", "moments", "lasting", "lasting rest")], ["right", "wrong 6", "right", "-1", "-1"])

    def test_drawn(self):
        count = {}
        for seed, program in lean_programs(range(5900, 5930)):
            self.looks_as_functions(program, 2, count)
        for seed, program in lean_programs(range(5930, 5950), Counted):
            self.looks_as_functions(program, 1, count)
        self.assertGreater(count["right"], 20)
        self.assertGreater(count["wrong"], 10)

    def looks_as_functions(self, program, many, count):
        desk = desk_of(program, many)
        for line, call in (("rests", lambda: rests(program, many)), ("houses", lambda: rests(program, many, houses=True)), ("moments", lambda: moments(program, many)), ("ever", lambda: ever(program)),
                           ("steady", lambda: steady(program, many)), ("lasting", lambda: lasting(program, many)), ("lasting rest", lambda: lasting(program, many, hands=False))):
            try:
                found = call()
            except LateError as error:
                with self.assertRaises(type(error)) as caught:
                    desk.say(line)
                self.assertEqual(vars(caught.exception), vars(error))
                continue
            wanted = found[0]
            if wanted == "wrong" and line != "ever":
                wanted = f"wrong {len(found[1])}"
            if wanted == "most":
                wanted = str(found[1])
            self.assertEqual(desk.say(line), wanted)
            count[found[0]] = count.get(found[0], 0) + 1

    def test_beside_the_keeper(self):
        def told(shows):
            return "-" if shows is None else " ".join(map(str, shows))
        for seed in range(5950, 5990):
            draw = random.Random(seed)
            keeper = Keeper(Program(drawn_text(draw)), draw.randint(1, 3))
            desk = Desk(keeper.journal)
            for _ in range(8):
                line = draw.choice(desk.say("moves").split("; "))
                if line == "-":
                    break
                words = line.split()
                move = ("deed", words[1], int((words + ["0"])[2])) if words[0] == "deed" else (words[0], int(words[1]))
                self.assertEqual(desk.say(line), told(keeper.do(move)))
                self.assertEqual(all_seen(desk.keeper), all_seen(keeper))
                self.assertEqual([desk.say("shown"), desk.say("plain")], [told(keeper.shown), told(keeper.plain_shown)])
                self.assertEqual(desk.say("wrongs"), "; ".join(f"{number} {word}" for number, word in keeper.wrongs()) or "-")
                self.assertEqual(desk.say("tasks"), "; ".join(" ".join(map(str, task[:5])) for task in keeper.stand[3]) or "-")
                word, rows = keeper.outlook()
                self.assertEqual(desk.say("outlook"), f"sure {told(rows[0][1])}" if word == "sure" else "open " + "; ".join(told(row[0]) for row in rows))

    def test_the_present_program(self):
        keeper = kept(TYPE, 2, deed("type", 1))
        keeper.exchange(LAST)
        desk = Desk(keeper.journal)
        self.assertEqual([desk.say(line) for line in ("rests", "moments", "steady", "lasting", "ever", "tasks")], ["right", "right", "steady", "endless", "right", "find 1 out 0 live"])
        self.assertEqual(desk.say("undo"), "ok")
        self.assertEqual([desk.say(line) for line in ("rests", "moments", "steady", "lasting", "ever")], ["wrong 6", "wrong 4", "parts", "1", "wrong"])
        self.assertEqual(desk.say("redo"), "ok")
        self.assertEqual(desk.keeper, keeper)


class Errors(unittest.TestCase):
    def test_no_line(self):
        desk = desk_of(TYPE, 2, *STORY[:3])
        desk.say("undo")
        before = all_seen(desk.keeper)
        lines = [word + more for word in WORDS for more in (" ", " x", "s", "\n")] + [" " + word for word in WORDS] + [word.upper() for word in WORDS] + [
            "", " ", "over", " over", "over ", "lasting  rest", "lasting rests", "rest", "lasting hands", "deed", "deed ", "deed type 0", "deed type 01", "deed type  1", " deed type", "deed type ", "deed it", "deed asked", "deed type 1000", "does", "does  0",
            "does 00", "does 1000", "does -1", "does 0 ", "gone", "comes", "comes x", "sends", "exchange", "journal", "trial", "help", "undo; redo", "shown\nplain", "deed type\n", "move", "task", "look", "-", "missing", "upon", "guarded", "many", "story", "program", "stand", "copy"]
        for line in lines:
            with self.assertRaises(BadLine) as caught:
                desk.say(line)
            self.assertIs(caught.exception.value, line)
        for value in ANY + (("undo",), ["undo"], {"undo": 1}, deed("type"), comes(0), 12):
            with self.assertRaises(BadLine) as caught:
                desk.say(value)
            self.assertIs(caught.exception.value, value)
        self.assertEqual(all_seen(desk.keeper), before)

    def test_no_move(self):
        desk = desk_of(TYPE, 1, STORY[0])
        desk.say("undo")
        desk.say("redo")
        before = all_seen(desk.keeper)
        for line, value in (("deed type 1", deed("type", 1)), ("deed type 3", deed("type", 3)), ("deed find", deed("find")), ("deed over", deed("over")), ("deed undo", deed("undo")), ("comes 0", comes(0)), ("does 1", does(1)), ("gone 0", ("gone", 0)), ("sends 999", ("sends", 999))):
            with self.assertRaises(NoMove) as caught:
                desk.say(line)
            self.assertEqual(repr(caught.exception.value), repr(value))
        self.assertEqual(all_seen(desk.keeper), before)

    def test_names_that_are_words(self):
        program = made("worths 2", "house", "  ask moves", "    answer it", "screen", "  cell shown 0", "  show shown", "  deed undo", "    ask moves 1 guess shown = 1", "  deed over upto 1", "    set shown it")
        desk = desk_of(program, 1)
        self.assertEqual([desk.say(line) for line in ("deed undo", "undo", "deed over 1", "undo", "moves")], ["1", "ok", "1", "ok", "deed over; deed over 1; deed undo"])

    def test_too_many(self):
        desk = desk_of(TYPE, 2, *STORY[:2])
        before = all_seen(desk.keeper)
        with mock.patch("lastasked.tables.MOST_MEMBERS", 2):
            for line in ("outlook", "rests", "houses", "moments", "steady", "lasting", "lasting rest"):
                with self.assertRaises(TooMany) as caught:
                    desk.say(line)
                self.assertEqual(caught.exception.number, 2)
        self.assertEqual(all_seen(desk.keeper), before)

    def test_not_counted(self):
        desk = desk_of(made(*FIND[:7], "  take find rising", *FIND[7:]), 2, deed("type", 1))
        before = all_seen(desk.keeper)
        with self.assertRaises(NotCounted) as caught:
            desk.say("ever")
        self.assertEqual(caught.exception.line, 8)
        self.assertEqual(all_seen(desk.keeper), before)

    def test_no_journal(self):
        for value in ("", "many 2", None, 0, [], ("many 2",)):
            with self.assertRaises(BadText):
                Desk(value)

    def test_words_of_the_table_change_nothing(self):
        desk = desk_of(TYPE, 2, *STORY)
        desk.say("undo")
        before = all_seen(desk.keeper)
        for word in WORDS[2:]:
            self.assertIs(type(desk.say(word)), str)
            self.assertEqual(all_seen(desk.keeper), before)


if __name__ == "__main__":
    unittest.main()
