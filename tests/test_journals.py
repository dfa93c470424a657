"""Section 16: journals of keepers, and keepers read back from them."""

import random
import unittest

from lastasked.desk import Desk
from lastasked.errors import BadMany, BadPrograms, BadText, NoMove, NothingToRedo
from lastasked.journals import read_journal
from lastasked.keeper import Keeper
from lastasked.programs import Program
from lastasked.texts import show_story
from tests.helper import BARE, FULL, comes, deed, does, drawn_text, made
from tests.passages import OVER, Passing
from tests.searches import FIND
from tests.test_keeper import LAST, STORY, TYPE, all_seen, kept
from tests.test_stands import ANY

FIRST = ["many 2", "program"] + ["  " + row for row in FIND] + ["story"]
NEWER = ["    " + row for row in LAST.text.split("\n")]


class Told(unittest.TestCase):
    def bad(self, rows, line):
        with self.assertRaises(BadText) as caught:
            read_journal("\n".join(rows))
        self.assertEqual(repr(caught.exception.line), repr(line), rows)
        with self.assertRaises(BadText) as caught:
            Desk("\n".join(rows))
        self.assertEqual(repr(caught.exception.line), repr(line), rows)

    def fails(self, error, value, rows):
        for call in (read_journal, Desk):
            with self.assertRaises(error) as caught:
                call("\n".join(rows))
            self.assertEqual(repr(caught.exception.value), repr(value))

    def back(self, keeper):
        found = read_journal(keeper.journal)
        self.assertIs(type(found), Keeper)
        self.assertEqual(found, keeper)
        self.assertEqual([found.journal, found.stand, found.plain, found.many, found.programs, found.story], [keeper.journal, keeper.stand, keeper.plain, keeper.many, keeper.programs, keeper.story])
        self.assertRaises(NothingToRedo, found.redo)
        return found


class Written(Told):
    def test_no_move(self):
        self.assertEqual(repr(Keeper(TYPE, 2).journal), repr("\n".join(FIRST)))
        for many in (1, 2, 3, 4):
            self.assertEqual(Keeper(TYPE, many).journal.split("\n")[0], f"many {many}")

    def test_moves(self):
        keeper = kept(TYPE, 2, *STORY)
        self.assertEqual(keeper.journal.split("\n"), FIRST + ["  deed type 1", "  deed type 2", "  does 0", "  does 1", "  comes 1", "  comes 0"])
        keeper.undo()
        self.assertEqual(keeper.journal.split("\n"), FIRST + ["  deed type 1", "  deed type 2", "  does 0", "  does 1", "  comes 1"])
        keeper.do(comes(0))
        keeper.do(deed("type"))
        self.assertEqual(keeper.journal.split("\n")[-1], "  deed type")

    def test_exchanges(self):
        keeper = kept(TYPE, 2, deed("type", 1))
        keeper.exchange(LAST)
        self.assertEqual(keeper.journal.split("\n"), FIRST + ["  deed type 1", "  over"] + NEWER)
        keeper.do(does(0))
        keeper.exchange(TYPE)
        self.assertEqual(keeper.journal.split("\n"), FIRST + ["  deed type 1", "  over"] + NEWER + ["  does 0", "  over"] + ["    " + row for row in FIND])

    def test_its_rows(self):
        # The rows of the story without those of programs are the story's text, two blanks deeper.
        for seed in range(5800, 5840):
            draw = random.Random(seed)
            programs = Passing(draw).programs(2)
            keeper = Keeper(programs[0], draw.randint(1, 4))
            for _ in range(12):
                try:
                    keeper.exchange(draw.choice(programs)) if draw.random() < 0.15 else keeper.do(draw.choice(keeper.moves()))
                except NoMove:
                    continue
            rows = keeper.journal.split("\n")
            moves = [row[2:] for row in rows[rows.index("story") + 1:] if row[:4] != "    "]
            self.assertEqual("\n".join(moves), show_story(keeper.story))
            self.back(keeper)


class Read(Told):
    def test_back(self):
        for story in ((), STORY[:1], STORY):
            self.back(kept(TYPE, 2, *story))
        keeper = kept(LAST, 3, *STORY[:3])
        keeper.exchange(TYPE)
        self.back(keeper)
        keeper.do(does(1))
        keeper.exchange(LAST)
        keeper.exchange(LAST)
        found = self.back(keeper)
        for _ in range(7):
            found.undo()
        self.assertEqual(found, Keeper(LAST, 3))
        # What was taken back is not in it.
        keeper.undo()
        self.back(keeper)
        keeper.undo()
        self.back(keeper)

    def test_any_program(self):
        for program in (made(*FULL), made(*BARE)):
            self.back(Keeper(program, 1))
        for seed in range(5850, 5880):
            draw = random.Random(seed)
            keeper = Keeper(Program(drawn_text(draw)), draw.randint(1, 4))
            for _ in range(10):
                keeper.do(draw.choice(keeper.moves()))
            self.back(keeper)

    def test_no_string(self):
        for value in ANY + (["many 2"], ("many 2",), {"many 2": 1}, 2):
            if not isinstance(value, str):
                for call in (read_journal, Desk):
                    with self.assertRaises(BadText) as caught:
                        call(value)
                    self.assertEqual(repr(caught.exception.line), "0")

    def test_many(self):
        for row in ("", "many", "many ", "many  2", " many 2", "many 2 ", "many 12", "many 02", "many x", "many -1", "many 2 2", "Many 2", "many2", "many: 2", "2", "program", "many 1.", "many two", "many\t2"):
            self.bad([row] + FIRST[1:], 1)
            self.bad([row], 1)
        for n in (0, 5, 6, 9):
            self.fails(BadMany, n, [f"many {n}"] + FIRST[1:])
            # BadText of any row comes ahead of it, and it ahead of what is not possible.
            self.bad([f"many {n}"] + FIRST[1:] + ["  type 1"], len(FIRST) + 1)
            self.bad([f"many {n}"] + FIRST[1:-1], len(FIRST))
            self.fails(BadMany, n, [f"many {n}"] + FIRST[1:] + ["  comes 0"])
            self.fails(BadMany, n, [f"many {n}"] + FIRST[1:] + ["  over"] + ["    " + row for row in BARE])

    def test_the_row_of_the_program(self):
        for row in ("", "programs", "program ", " program", "  program", "Program", "story", "program x", "  worths 3"):
            self.bad(FIRST[:1] + [row] + FIRST[2:], 2)
        self.bad(FIRST[:1] + FIRST[2:], 2)
        # Twice: the second one is no line of the program.
        self.bad(FIRST[:2] + FIRST[1:], 3)

    def test_the_row_of_the_story(self):
        at = len(FIRST)
        for row in ("", "stories", "story ", " story", "Story", "program", "story x"):
            self.bad(FIRST[:-1] + [row], at)
        # Deeper it stands in the program, which is right without it.
        self.bad(FIRST[:-1] + ["  story"], at)
        self.bad(FIRST[:-1] + ["  deed type"], at)
        self.bad(FIRST + ["story"], at + 1)
        self.bad(FIRST[:-1] + ["  story", "story"], at)

    def test_less_deep_or_deeper(self):
        for n in range(2, len(FIRST) - 1):
            for lead in ("", " ", "   ", "    "):
                row = lead + FIRST[n].lstrip()
                if row != FIRST[n] and not (FIRST[n].startswith("    ") and row.startswith("  ")):
                    self.bad(FIRST[:n] + [row] + FIRST[n + 1:], n + 1)

    def test_a_row_of_the_program(self):
        for n in range(2, len(FIRST) - 1):
            for row in ("  ", "", "  x", FIRST[n] + " ", FIRST[n] + " 0", " " + FIRST[n], FIRST[n].replace(" ", "  ")):
                self.bad(FIRST[:n] + [row] + FIRST[n + 1:], self.second_line(FIRST[:n] + [row] + FIRST[n + 1:]))
            # Missing, or twice: where it is a program all the same, it is this one's journal.
            for rows in (FIRST[:n] + FIRST[n + 1:], FIRST[:n] + FIRST[n:n + 1] + FIRST[n:]):
                try:
                    program = Program("\n".join(row[2:] for row in rows[2:-1]))
                except BadText:
                    self.bad(rows, self.second_line(rows))
                else:
                    self.assertEqual(read_journal("\n".join(rows)), Keeper(program, 2))

    def second_line(self, rows):
        """The line that the program itself tells, of the rows up to the first one that is not deep enough."""
        ends = [n for n in range(2, len(rows)) if rows[n][:2] != "  "][0]
        try:
            Program("\n".join(row[2:] for row in rows[2:ends]))
        except BadText as error:
            return error.line + 2
        return ends + 1

    def test_lines_that_are_missing(self):
        # At the end of the text the number of lines and one more, otherwise the one that stands there.
        self.bad(FIRST[:1], 2)
        self.bad(FIRST[:2], 3)
        self.bad(FIRST[:2] + ["story"], 3)
        for n in range(3, len(FIRST) - 1):
            try:
                Program("\n".join(row[2:] for row in FIRST[2:n]))
            except BadText as error:
                self.bad(FIRST[:n], error.line + 2)
                self.bad(FIRST[:n] + ["story"], error.line + 2)
                self.bad(FIRST[:n] + ["story", "  over"], error.line + 2)
                if error.line == n - 1:
                    self.bad(FIRST[:n], n + 1)
        self.bad(FIRST[:-1], len(FIRST))

    def test_too_many_rows(self):
        self.bad(FIRST[:-1] + ["    refused find", "      set x 0", "    refused find", "      set x 1", "story"], len(FIRST) + 2)
        self.bad(FIRST[:3] + FIRST[2:], 4)

    def test_moves(self):
        at = len(FIRST) + 1
        for row in ("deed type", " deed type", "   deed type", "    deed type", "  deed type ", "  deed  type", "  deed type 0", "  deed type 01", "  deed it", "  does", "  does 00", "  does 1000", "  type 1", "  ", "", "  ('over',)", "over", "  over ", "story", "  undo"):
            self.bad(FIRST + [row], at)
            self.bad(FIRST + ["  deed type 1", row], at + 1)
            self.bad(FIRST + ["  deed type 1", row, "  does 0"], at + 1)
        # A text that ends with a line feed has one line more.
        self.bad(FIRST + ["  deed type 1", ""], at + 1)
        self.bad(FIRST[:-1] + ["story", ""], at)

    def test_a_move_that_is_not_possible(self):
        for text, value in (("comes 0", comes(0)), ("deed type 3", deed("type", 3)), ("deed type 999", deed("type", 999)), ("deed find", deed("find")), ("does 0", does(0)), ("gone 7", ("gone", 7)), ("sends 0", ("sends", 0))):
            self.fails(NoMove, value, FIRST + ["  " + text])
            # The first one is told, but a row that is no text is told ahead of it.
            self.fails(NoMove, value, FIRST + ["  " + text, "  comes 9"])
            self.bad(FIRST + ["  " + text, "  comes x"], len(FIRST) + 2)
            self.bad(FIRST + ["  " + text, "  over", "    worths 5"], len(FIRST) + 3)
        self.fails(NoMove, deed("type", 1), ["many 1"] + FIRST[1:] + ["  deed type 2", "  deed type 1"])
        self.fails(NoMove, does(0), FIRST + ["  deed type 2", "  does 0", "  deed type 1", "  does 0"])

    def test_a_newer_program(self):
        at = len(FIRST) + 2
        # Its rows stand four blanks deep.
        for depth in ("", "  ", "   ", "     "):
            self.bad(FIRST + ["  over"] + [depth + row for row in FIND], at)
        for n in range(len(NEWER)):
            self.bad(FIRST + ["  over"] + NEWER[:n] + [NEWER[n] + " "] + NEWER[n + 1:], at + n)
            self.bad(FIRST + ["  over"] + NEWER[:n] + ["", *NEWER[n:]], at + n)
        self.bad(FIRST + ["  over"], at)
        self.bad(FIRST + ["  over", "  does 0"], at)
        self.bad(FIRST + ["  over"] + NEWER[:4], at + 4)
        self.bad(FIRST + ["  over"] + NEWER[:4] + ["  does 0"], at + 4)
        self.bad(FIRST + ["  over"] + NEWER + ["    more"], at + len(NEWER))
        self.bad(FIRST + ["  over"] + NEWER + ["  over"], at + len(NEWER) + 1)
        self.bad(FIRST + ["  over"] + NEWER + ["  over"] + NEWER[:3] + ["  over"], at + len(NEWER) + 4)
        self.bad(FIRST + ["  over"] + NEWER + NEWER, at + len(NEWER))

    def test_a_newer_program_that_does_not_suit(self):
        bare = ["    " + row for row in BARE]
        for story in ([], ["  deed type 1"], ["  deed type 1", "  does 0"]):
            with self.assertRaises(BadPrograms) as caught:
                read_journal("\n".join(FIRST + story + ["  over"] + bare))
            self.assertEqual(caught.exception.value, (TYPE, made(*BARE)))
        # By the program that is there then.
        with self.assertRaises(BadPrograms) as caught:
            read_journal("\n".join(FIRST + ["  over"] + NEWER + ["  over"] + bare))
        self.assertEqual(caught.exception.value, (LAST, made(*BARE)))
        self.fails(NoMove, comes(0), FIRST + ["  comes 0", "  over"] + bare)

    def test_a_newer_program_without_room(self):
        asking = ["    " + row for row in FIND + ("  over", "    ask find 0")]
        self.fails(NoMove, OVER, ["many 1"] + FIRST[1:] + ["  deed type 1", "  over"] + asking)
        keeper = read_journal("\n".join(["many 1"] + FIRST[1:] + ["  over"] + asking))
        self.assertEqual([keeper.story, len(keeper.stand[3])], [(OVER,), 1])
        self.assertEqual(len(read_journal("\n".join(FIRST + ["  deed type 1", "  over"] + asking)).stand[3]), 2)

    def test_cut_off_at_each_row(self):
        keeper = kept(TYPE, 2, *STORY[:3])
        keeper.exchange(LAST)
        keeper.do(does(1))
        keeper.exchange(TYPE)
        rows = keeper.journal.split("\n")
        right = 0
        for n in range(1, len(rows)):
            try:
                found = read_journal("\n".join(rows[:n]))
            except BadText as error:
                self.assertLessEqual(error.line, n + 1)
                continue
            right += 1
            self.assertEqual(found.journal.split("\n"), rows[:n])
            self.assertEqual(found.story, keeper.story[:len(found.story)])
        # With no move, behind each of three, behind the first exchange (whose program may lack its last rows), and behind one more.
        self.assertGreaterEqual(right, 6)

    def test_one_row_otherwise(self):
        # Whatever is read is written again just so.
        keeper = kept(TYPE, 2, *STORY[:3])
        keeper.exchange(LAST)
        rows = keeper.journal.split("\n")
        read = 0
        for n in range(len(rows)):
            for others in ([], [rows[n]] * 2, rows[n:n + 2][::-1], ["  " + rows[n]], [rows[n][2:]], [rows[n] + "1"], [rows[n].replace("2", "1")], [rows[n].replace("x", "y")]):
                text = "\n".join(rows[:n] + others + rows[n + len(others or [0]) if others == rows[n:n + 2][::-1] else n + 1:])
                try:
                    found = read_journal(text)
                except (BadText, BadMany, NoMove, BadPrograms):
                    continue
                self.assertEqual(found.journal, text)
                read += 1
        self.assertGreater(read, 10)

    def test_by_name(self):
        self.assertEqual(read_journal(text="\n".join(FIRST)), Keeper(TYPE, 2))


if __name__ == "__main__":
    unittest.main()
