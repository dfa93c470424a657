"""Section 4: programs that are not read, with the line that is told."""

import itertools
import random
import unittest

from lastasked.errors import BadText
from lastasked.programs import Program
from tests.helper import BARE, FULL, drawn_text, text_of, tree_of


def line_of(text):
    """The line that is told of a text, None if it is read."""
    try:
        Program(text)
    except BadText as e:
        return e.line
    return None


class Bad(unittest.TestCase):
    def bad(self, line, *rows):
        text = "\n".join(rows)
        got = line_of(text)
        self.assertEqual(repr(got), repr(line), "\n" + text)

    def bad_statement(self, *rows, line=None):
        """Below a deed, an answer and over, one behind the other (the last row is bad if no line is told)."""
        line = len(rows) if line is None else line
        self.bad(7 + line, *BARE[:7], *rows)
        self.bad(9 + line, *BARE, "  answer a", *rows)
        self.bad(9 + line, *BARE, "  refused a", *rows)
        self.bad(9 + line, *BARE, "  over", *rows)

    def bad_in_house(self, *rows, line=None):
        line = len(rows) if line is None else line
        self.bad(4 + line, *BARE[:2], "  cell n 0", "  ask a", *rows, *BARE[3:])


class NoString(Bad):
    def test_no_string(self):
        for value in (0, 1, True, None, (), ("worths 2",), [], list(BARE), {}, {"text": "worths 2"}, [[["x"]]]):
            self.assertEqual(repr(line_of(value)), "0", value)

    def test_the_error_keeps_the_line(self):
        with self.assertRaises(BadText) as caught:
            Program("worths 5")
        self.assertEqual(vars(caught.exception), {"line": 1})


class Ends(Bad):
    def test_empty(self):
        self.bad(1, "")

    def test_line_feed_at_the_end(self):
        self.bad(9, *BARE, "")
        self.bad(len(FULL) + 1, *FULL, "")
        self.bad(2, "worths 2", "")
        self.bad(10, *BARE, "  over", "")
        self.bad(1, "", *BARE)
        self.bad(1, "", "")

    def test_empty_line(self):
        for at in range(len(FULL)):
            self.bad(at + 1, *FULL[:at], "", *FULL[at:])

    def test_lines_missing(self):
        # Cut behind each line: where no line is missing the text is read, otherwise one line more is told.
        whole = [8] + [10]
        rows = [*BARE, "  answer a", "    anew"]
        for many in range(1, len(rows) + 1):
            self.bad(None if many in whole else many + 1, *rows[:many])

    def test_full_cut(self):
        starts = ("  deed", "  answer", "  refused", "  over")
        for many in range(1, len(FULL)):
            got = line_of("\n".join(FULL[:many]))
            last = FULL[many - 1]
            is_whole = many > 37 and not last.startswith(starts) and last.split()[0] not in ("if", "else")
            self.assertEqual(got, None if is_whole else many + 1, last)

    def test_drawn_cut(self):
        for seed in range(200):
            rows = drawn_text(random.Random(seed)).split("\n")
            for many in range(1, len(rows)):
                self.assertIn(line_of("\n".join(rows[:many])), (None, many + 1))

    def test_one_line_more(self):
        for line in ("", "screen", "house", "  deed d", "  answer b", "  cell e 0", "x", "  over over", "    over"):
            self.bad(9, *BARE, line)
        self.bad(11, *BARE, "  over", "    anew", "  over", "    anew")
        self.bad(11, *BARE, "  over", "    anew", "  answer a", "    anew")
        self.bad(11, *BARE, "  over", "    anew", "  deed e", "    anew")
        self.bad(11, *BARE, "  over", "    anew", "screen")


class Blanks(Bad):
    def test_blank_at_an_end(self):
        for at in range(len(FULL)):
            self.bad(at + 1, *FULL[:at], FULL[at] + " ", *FULL[at + 1:])
            self.bad(at + 1, *FULL[:at], " " + FULL[at], *FULL[at + 1:])

    def test_blank_too_few_at_the_beginning(self):
        for at in range(len(FULL)):
            if FULL[at].startswith(" "):
                self.bad(at + 1, *FULL[:at], FULL[at][1:], *FULL[at + 1:])

    def test_blank_too_many_or_too_few_between(self):
        for at in range(len(FULL)):
            lead = len(FULL[at]) - len(FULL[at].lstrip())
            words = FULL[at].split()
            for cut in range(1, len(words)):
                for between in ("  ", "   ", ""):
                    row = " " * lead + " ".join(words[:cut]) + between + " ".join(words[cut:])
                    self.bad(at + 1, *FULL[:at], row, *FULL[at + 1:])

    def test_only_blanks(self):
        for at in range(1, len(BARE) + 1):
            self.bad(at + 1, *BARE[:at], "  ", *BARE[at:])

    def test_a_level_too_deep(self):
        for at in range(len(BARE)):
            self.bad(at + 1, *BARE[:at], "  " + BARE[at], *BARE[at + 1:])

    def test_a_level_not_deep_enough(self):
        for at in (2, 4, 5, 6, 7):
            self.bad(at + 1, *BARE[:at], BARE[at][2:], *BARE[at + 1:])

    def test_word_left_out_or_added(self):
        for at in range(len(FULL)):
            lead = " " * (len(FULL[at]) - len(FULL[at].lstrip()))
            words = FULL[at].split()
            rows = [words[:k] + ["zzzzzzzzz"] + words[k:] for k in range(len(words) + 1)]
            rows += [words[:k] + ["zzzzzzzzz"] + words[k + 1:] for k in range(len(words))]
            for row in rows:
                self.bad(at + 1, *FULL[:at], lead + " ".join(row), *FULL[at + 1:])

    def test_other_case(self):
        for at in range(len(FULL)):
            self.bad(at + 1, *FULL[:at], FULL[at].upper(), *FULL[at + 1:])

    def test_drawn_blanks(self):
        for seed in range(60):
            rows = drawn_text(random.Random(seed)).split("\n")
            for at, row in enumerate(rows):
                words = row.split(" ")
                for other in (row + " ", " " + row, row[:-1] + "  " + row[-1:], "", row + " x x x x x x x x x x x x"):
                    self.assertEqual(line_of("\n".join(rows[:at] + [other] + rows[at + 1:])), at + 1, (words, other))


class Sequence(Bad):
    def test_lines_left_out(self):
        self.bad(1, *BARE[1:])
        self.bad(2, *BARE[:1], *BARE[2:])
        self.bad(3, *BARE[:2], *BARE[3:])
        self.bad(4, *BARE[:3], *BARE[4:])
        self.bad(5, *BARE[:4], *BARE[5:])
        self.bad(6, *BARE[:5], *BARE[6:])
        self.bad(7, *BARE[:6], *BARE[7:])
        self.bad(8, *BARE[:7])

    def test_lines_twice(self):
        for at in (0, 1, 2, 3, 4, 5, 6):
            self.bad(at + 2, *BARE[:at + 1], BARE[at], *BARE[at + 1:])

    def test_twice(self):
        for line in ("  take a last", "  send a one", "  keep a only", "  back c redone"):
            self.bad(8, *BARE[:6], line, line, *BARE[6:])
        self.bad(8, *BARE[:6], "  take a last", "  take a rising", *BARE[6:])
        self.bad(4, *BARE[:2], "  in order", "  in order", *BARE[2:])
        self.bad(11, *BARE, "  answer a", "    anew", "  answer a", "    anew")
        self.bad(11, *BARE, "  refused a", "    anew", "  refused a", "    anew")

    def test_house_out_of_its_sequence(self):
        self.bad(4, *BARE[:2], "  cell n 0", "  in order", *BARE[2:])
        self.bad(4, *BARE[:3], "  in order", *BARE[3:])
        self.bad(4, *BARE[:3], "  cell n 0", *BARE[3:])
        self.bad(1, "house", "worths 2", *BARE[2:])
        self.bad(2, "worths 2", "screen", *BARE[4:], *BARE[1:3])

    def test_words_of_one_kind_out_of_their_sequence(self):
        for one, two in (("take {} last", "take {} rising"), ("send {} one", "send {} one"), ("keep {} both", "keep {} only")):
            head = [*BARE[:3], "  ask b", "  ask e", *BARE[3:6]]
            for first, last in itertools.permutations("abe", 2):
                rows = ["  " + one.format(first), "  " + two.format(last)]
                self.bad(None if first < last else 10, *head, *rows, *BARE[6:])
        head = [*BARE[:5], "  cell d 0", "  cell e 0", BARE[5]]
        for first, last in itertools.permutations("cde", 2):
            self.bad(None if first < last else 10, *head, f"  back {first} redone", f"  back {last} redone", *BARE[6:])

    def test_kinds_out_of_their_sequence(self):
        lines = ["  unsure c = 0", "  take a last", "  send a one", "  keep a only", "  back c redone"]
        for n, m in itertools.permutations(range(5), 2):
            self.bad(None if n < m else 8, *BARE[:6], lines[n], lines[m], *BARE[6:])
        for line in lines:
            self.bad(6, *BARE[:5], line, *BARE[5:])
            self.bad(9, *BARE, line)
            self.bad(9, *BARE, line, "  answer a", "    anew")

    def test_cells_behind_the_show(self):
        self.bad(7, *BARE[:6], "  cell d 0", *BARE[6:])
        self.bad(8, *BARE[:6], "  unsure c = 0", "  show c", *BARE[6:])

    def test_handlers_out_of_their_sequence(self):
        head = [*BARE[:3], "  ask b", *BARE[3:]]
        words = ["answer a", "refused a", "answer b", "refused b"]
        for n, m in itertools.product(range(4), repeat=2):
            rows = ["  " + words[n], "    anew", "  " + words[m], "    anew"]
            self.bad(None if n < m else 12, *head, *rows)

    def test_handlers_ahead_of_deeds(self):
        self.bad(7, *BARE[:6], "  answer a", "    anew", *BARE[6:])
        self.bad(7, *BARE[:6], "  over", "    anew", *BARE[6:])


class Nothing(Bad):
    """A block with nothing below it."""

    def test_deed(self):
        self.bad(8, *BARE[:7], "  deed e", "    anew")
        self.bad(8, *BARE[:7], "  answer a", "    anew")
        self.bad(8, *BARE[:7])
        self.bad(8, *BARE[:7], "  over", "    anew")

    def test_handlers(self):
        self.bad(10, *BARE, "  answer a", "  refused a", "    anew")
        self.bad(10, *BARE, "  refused a", "  over", "    anew")
        for line in ("  answer a", "  refused a", "  over", "  deed e"):
            self.bad(10, *BARE, line)

    def test_ifs(self):
        self.bad_statement("    if c = 0", "    anew")
        self.bad(9, *BARE[:7], "    if c = 0")
        self.bad(9, *BARE[:7], "    if c = 0", "    else", "      anew")
        self.bad(11, *BARE[:7], "    if c = 0", "      anew", "    else")
        self.bad(11, *BARE[:7], "    if c = 0", "      anew", "    else", "    anew")
        self.bad(10, *BARE[:7], "    if c = 0", "      if c = 0", "      anew")
        self.bad_in_house("    if it = 0", "    refuse")
        self.bad_in_house("    if it = 0", "      refuse", "    else", "    refuse")
        self.bad(5, *BARE[:3], "    if it = 0", *BARE[3:])
        self.bad(7, *BARE[:3], "    if it = 0", "      refuse", "    else", *BARE[3:])

    def test_else_alone(self):
        self.bad_statement("    else", "      anew", line=1)
        self.bad_statement("    if c = 0", "      anew", "    anew", "    else", "      anew", line=4)
        self.bad_statement("    if c = 0", "      anew", "    else", "      anew", "    else", "      anew", line=5)
        self.bad_statement("    if c = 0", "      anew", "      else", "      anew", line=3)
        self.bad_in_house("    else", "      refuse", line=1)

    def test_else_with_words(self):
        self.bad_statement("    if c = 0", "      anew", "    else if", "      anew", line=3)
        self.bad_statement("    if c = 0", "      anew", "    else c = 0", "      anew", line=3)


class Bounds(Bad):
    def test_worths(self):
        for word in ("0", "1", "5", "9", "10", "02", "-2", "two", "2 2", "+2", "it", "2.", "c"):
            self.bad(1, f"worths {word}", *BARE[1:])
        self.bad(1, "worths", *BARE[1:])
        self.bad(1, "worth 2", *BARE[1:])
        self.bad(1, "2 worths", *BARE[1:])

    def test_house_cells(self):
        self.bad(5, *BARE[:2], "  cell n 0", "  cell m 0", "  cell k 0", *BARE[2:])

    def test_asks(self):
        self.bad(6, *BARE[:3], "  ask b", "  ask e", "  ask f", *BARE[3:])

    def test_cells(self):
        self.bad(9, *BARE[:5], "  cell d 0", "  cell e 0", "  cell f 0", "  cell g 0", *BARE[5:])

    def test_shows(self):
        cells = ["  cell d 0", "  cell e 0"]
        for show in ("  show", "  show c c", "  show c d e", "  show c d c", "  show 0", "  show it", "  show f", "  show c f",
                     "  show f c", "  show c 0"):
            self.bad(8, *BARE[:5], *cells, show, *BARE[6:])

    def test_unsure(self):
        self.bad(9, *BARE[:6], "  unsure c = 0", "  unsure c = 0", "  unsure c = 1", *BARE[6:])
        for line in ("unsure c = 2", "unsure c 0", "unsure d = 0", "unsure c + 0", "unsure 0 = c", "unsure c = c",
                     "unsure c = it", "unsure c =", "unsure c = 0 0", "unsure"):
            self.bad(7, *BARE[:6], "  " + line, *BARE[6:])

    def test_deeds(self):
        more = ["  deed e", "    anew", "  deed f", "    anew"]
        self.bad(None, *BARE, *more)
        self.bad(13, *BARE, *more, "  deed g", "    anew")

    def test_upto(self):
        for worths in (2, 3, 4):
            for word in ["0", "upto", "it", "asked", "c", "-1", "01", "11"] + [str(n) for n in range(worths, 10)]:
                self.bad(7, f"worths {worths}", *BARE[1:6], f"  deed d upto {word}", "    anew")
        for line in ("deed d upto", "deed d 1", "deed upto 1", "deed d to 1", "deed d upto 1 1", "deed", "deed d upto 1 upto 1"):
            self.bad(7, *BARE[:6], "  " + line, "    anew")

    def test_statements(self):
        for many in range(1, 11):
            line = None if many < 9 else 8 + 8
            self.bad(line, *BARE[:7], *["    anew"] * many)
            for head in ("  answer a", "  refused a", "  over"):
                self.bad(line and line + 2, *BARE, head, *["    anew"] * many)
            self.bad(line and line + 1, *BARE[:7], "    if c = 0", *["      anew"] * many)
            self.bad(line and line + 3, *BARE[:7], "    if c = 0", "      anew", "    else", *["      anew"] * many)
            self.bad(line and 4 + 8, *BARE[:3], *["    refuse"] * many, *BARE[3:])
            self.bad(line and 5 + 8, *BARE[:3], "    if it = 0", *["      refuse"] * many, *BARE[3:])

    def test_an_if_with_its_else_is_one_statement(self):
        choice = ["    if c = 0", "      anew", "    else", "      anew"]
        self.bad(None, *BARE[:7], *choice * 8)
        self.bad(8 + 32, *BARE[:7], *choice * 9)

    def test_third_if(self):
        rows = ["    if c = 0", "      if c = 0", "        if c = 0", "          anew"]
        self.bad_statement(*rows, line=3)
        self.bad_statement("    if c = 0", "      anew", "    else", "      if c = 0", "        anew", "      else",
                           "        if c = 1", "          anew", line=7)
        self.bad_in_house("    if it = 0", "      if it = 0", "        if it = 0", "          refuse", line=3)
        self.bad_in_house("    if it = 0", "      if n = 0", "        refuse", "      else", "        if it = 0",
                          "          refuse", line=5)

    def test_names(self):
        for name in ("it", "asked", "abcdefghi", "A", "aB", "a1", "1", "a_b", "a-b", "", "=", "."):
            self.bad(3, *BARE[:2], f"  cell {name} 0", *BARE[2:])
            self.bad(3, *BARE[:2], f"  ask {name}", *BARE[3:])
            self.bad(5, *BARE[:4], f"  cell {name} 0", f"  show {name}", *BARE[6:])
            self.bad(7, *BARE[:6], f"  deed {name}", "    anew")

    def test_guesses(self):
        three = "guess c = 0 guess d = 0 guess e = 0"
        self.bad(10, *BARE[:5], "  cell d 0", "  cell e 0", *BARE[5:7], f"    ask a 0 {three}")
        self.bad(None, *BARE[:5], "  cell d 0", "  cell e 0", *BARE[5:7], f"    ask a 0 {three[:23]}")
        self.bad_ask("guess c = 0 guess c = 0")
        self.bad_ask("guess c = 0 guess c + 0")
        self.bad_ask("guess c + 1 guess c = 0")

    def bad_ask(self, rest):
        self.bad(8, *BARE[:7], f"    ask a 0 {rest}")
        self.bad(10, *BARE, "  over", f"    ask a 0 {rest}")
        self.bad(11, *BARE[:3], "  ask b", *BARE[3:], "  answer a", f"    ask b 0 {rest}")

    def test_guess_forms(self):
        for rest in ("guess c 0", "guess c - 0", "guess = c 0", "guess c = ", "guess c = 0 guess", "guess c == 0", "c = 0",
                     "guess", "guess c = 0 0", "guess it = 0", "guess c = 2", "guess d = 0", "guess 0 = c", "Guess c = 0",
                     "guess c = 0 and c = 1", "guess c = 0 guess d + 1", "guess a = 0"):
            self.bad_ask(rest)


class Names(Bad):
    def test_names_that_stand_already(self):
        self.bad(4, *BARE[:2], "  cell n 0", "  cell n 1", *BARE[2:])
        self.bad(4, *BARE[:3], "  ask a", *BARE[3:])
        self.bad(5, *BARE[:3], "  ask b", "  ask a", *BARE[3:])
        self.bad(6, *BARE[:5], "  cell c 1", *BARE[5:])
        self.bad(9, *BARE, "  deed d", "    anew")
        self.bad(11, *BARE, "  deed e", "    anew", "  deed d upto 1", "    anew")

    def test_names_that_there_are_not(self):
        for line in ("take b last", "send b one", "keep b only", "back d redone", "back a redone", "take c last"):
            self.bad(7, *BARE[:6], "  " + line, *BARE[6:])
        for line in ("answer b", "refused b", "answer c", "answer", "refused", "answer a a", "answered a", "refuse a"):
            self.bad(9, *BARE, "  " + line, "    anew")
        self.bad_statement("    off b")
        self.bad_statement("    off c")
        self.bad_statement("    forget b")
        self.bad_statement("    forget it")
        self.bad_statement("    set d 0")
        self.bad_statement("    add a 0")
        self.bad_statement("    set c d")
        self.bad_statement("    set c a")
        self.bad(8, *BARE[:7], "    ask b 0")
        self.bad(8, *BARE[:7], "    ask c 0")
        self.bad(8, *BARE[:7], "    ask a d")
        self.bad(8, *BARE[:7], "    ask a a")

    def test_words_that_there_are_not(self):
        for line in ("take a any", "take a one", "take a first", "send a many", "send a last", "send a only", "keep a none",
                     "keep a one", "back c kept", "back c only", "take a", "take a last last", "take last a", "send a",
                     "keep only", "back c", "takes a last", "unsure"):
            self.bad(7, *BARE[:6], "  " + line, *BARE[6:])
        for line in ("in orders", "in", "order", "in order now", "cells n 0"):
            self.bad(3, *BARE[:2], "  " + line, *BARE[2:])

    def test_cells_of_the_other_part(self):
        self.bad(4, *BARE[:3], "    set c 0", *BARE[3:])
        self.bad(5, *BARE[:2], "  cell n 0", "  ask a", "    set n c", *BARE[3:])
        self.bad(9, *BARE[:2], "  cell n 0", *BARE[2:7], "    set n 0")
        self.bad(9, *BARE[:2], "  cell n 0", *BARE[2:7], "    set c n")
        self.bad(7, *BARE[:2], "  cell n 0", *BARE[2:5], "  show n", *BARE[6:])

    def test_cell_worths(self):
        for worths in (2, 3, 4):
            for word in ["it", "asked", "c", "00", "-1", "", "+1"] + [str(n) for n in range(worths, 11)]:
                self.bad(3, f"worths {worths}", "house", f"  cell n {word}", *BARE[2:])
                self.bad(5, f"worths {worths}", *BARE[1:4], f"  cell c {word}", *BARE[5:])
                self.bad(7, f"worths {worths}", *BARE[1:6], f"  unsure c = {word}", *BARE[6:])
        for line in ("cell c", "cell 0", "cell", "cell c 0 0", "cell 0 c"):
            self.bad(5, *BARE[:4], "  " + line, *BARE[5:])
            self.bad(3, *BARE[:2], "  " + line, *BARE[2:])

    def test_worths_of_statements(self):
        for worths in (2, 3, 4):
            for word in ["00", "-1", "4", "asks", "c c"] + [str(n) for n in range(worths, 11)]:
                head = [f"worths {worths}", *BARE[1:7]]
                for line in (f"set c {word}", f"add c {word}", f"ask a {word}", f"if c = {word}", f"if {word} = c",
                             f"ask a 0 guess c = {word}", f"ask a 0 guess c + {word}"):
                    self.bad(8, *head, "    " + line, "      anew")
                for line in (f"set n {word}", f"add n {word}", f"answer {word}", f"if n = {word}", f"if {word} = n"):
                    self.bad(5, f"worths {worths}", "house", "  cell n 0", "  ask a", "    " + line, "      refuse", *BARE[3:])


class Statements(Bad):
    def test_forms_of_the_screen(self):
        for line in ("set c", "set c = 0", "set 0 c", "set c 0 0", "set", "add c", "add it 0", "set it 0", "anew c", "off",
                     "off a a", "forget", "forget a a", "ask a", "ask", "ask 0 a", "refuse", "answer 0", "answer a", "if c 0",
                     "if c + 0", "if c = 0 0", "if", "if c =", "deed e", "over", "set a 0", "new", "ask a = 0", "if c == 0"):
            self.bad_statement("    " + line)

    def test_forms_of_the_house(self):
        for line in ("set n", "set n = 0", "set 0 n", "add n", "add it 0", "set it it", "answer", "answer 0 0", "refuse 0",
                     "refused", "anew", "off a", "forget a", "ask a 0", "if n 0", "if n + 0", "if it", "set a 0", "answer a",
                     "answer asked", "set n asked", "if asked = 0", "refuse it"):
            self.bad_in_house("    " + line)

    def test_asked_where_it_cannot_stand(self):
        lines = ("set c asked", "add c asked", "if asked = 0", "if 0 = asked", "ask b asked", "ask b 0 guess c = asked",
                 "ask b 0 guess c = 0 guess d + asked")
        head = [*BARE[:3], "  ask b", *BARE[3:5], "  cell d 0", *BARE[5:]]
        for line in lines:
            rows = ["    " + line, "      anew"] if line.startswith("if") else ["    " + line]
            self.bad(10, *head[:-1], *rows)
            self.bad(12, *head, "  over", *rows)
            self.bad(None, *head, "  answer a", *rows)
            self.bad(None, *head, "  refused a", *rows)

    def test_it_below_over(self):
        head = [*BARE[:5], "  cell d 0", *BARE[5:]]
        for line in ("set c it", "add c it", "if it = 0", "if 0 = it", "ask a it", "ask a 0 guess c = it",
                     "ask a 0 guess c = 0 guess d + it"):
            rows = ["    " + line, "      anew"] if line.startswith("if") else ["    " + line]
            self.bad(None, *head[:-1], *rows)
            self.bad(11, *head, "  over", *rows)

    def test_asks_of_answers(self):
        head = [*BARE[:3], "  ask b", "  ask e", *BARE[3:]]
        for word in ("answer", "refused"):
            for n, ask in enumerate("abe"):
                for m, other in enumerate("abe"):
                    self.bad(None if m > n else 12, *head, f"  {word} {ask}", f"    ask {other} 0")
                    self.bad(None, *head, f"  {word} {ask}", f"    off {other}", f"    forget {other}")
        for ask in "abe":
            self.bad(None, *head, "  over", f"    ask {ask} 0")


class TooManyAsks(Bad):
    def test_in_sequence(self):
        ask = "    ask b 0"
        head = [*BARE[:3], "  ask b", *BARE[3:]]
        self.bad(None, *head[:-1], ask, ask)
        self.bad(11, *head[:-1], ask, ask, ask, ask)
        self.bad(12, *head[:-1], ask, "    anew", ask, ask)
        for line in ("  answer a", "  refused a", "  over"):
            self.bad(None, *head, line, ask)
            self.bad(12, *head, line, ask, ask)
            self.bad(13, *head, line, ask, "    anew", ask)

    def test_ways(self):
        head = list(BARE[:7])
        one, two = "    ask a 0", "      ask a 0"
        # No way has all of them.
        self.bad(None, *head, "    if c = 0", two, two, "    else", two, two)
        self.bad(None, *head, "    if c = 0", two, "    else", two, one)
        # The one behind the ifs is too many only on the way through the else, or only on that through the if.
        self.bad(13, *head, "    if c = 0", "      anew", "    else", two, two, one)
        self.bad(13, *head, "    if c = 0", two, two, "    else", "      anew", one)
        self.bad(11, *head, "    if c = 0", two, two, one)
        # Ifs that exclude one another, or never hold, count all the same.
        self.bad(14, *head, "    if c = 0", two, "    if c = 1", two, "    if 0 = 1", "      anew", two)
        self.bad(13, *head, "    if 0 = 1", two, "    if 0 = 1", two, "    if 0 = 1", two)
        # Within an if, behind an ask ahead of it.
        self.bad(11, *head, one, "    if c = 0", two, two)
        self.bad(13, *head, one, "    if c = 0", two, "    else", two, two)

    def test_the_first_line_is_told(self):
        # An ask too many ahead of a line that is none, and behind it.
        ask = "    ask a 0"
        self.bad(10, *BARE[:7], ask, ask, ask, "    nothing")
        self.bad(10, *BARE[:7], ask, ask, "    nothing", ask)

    def test_drawn_ways(self):
        for seed in range(400):
            draw = random.Random(seed)
            head = [*BARE[:3], "  ask b", *BARE[3:]]
            most, start = 2, "  deed e"
            if draw.random() < 0.6:
                most, start = 1, draw.choice(["  answer a", "  refused a", "  over"])
            tree = drawn_asks(draw, 0)
            text = "\n".join([*head, start, text_of(tree, 2)])
            self.assertEqual(line_of(text), first_too_many(tree, most, 11), text)


def drawn_asks(draw, ifs):
    found = []
    for _ in range(draw.randint(1, 3)):
        if ifs < 2 and draw.random() < 0.5:
            found.append((["if", "c", "=", str(draw.randint(0, 1))], drawn_asks(draw, ifs + 1)))
            if draw.random() < 0.5:
                found.append((["else"], drawn_asks(draw, ifs + 1)))
        else:
            found.append((draw.choice([["ask", "b", "0"], ["anew"], ["anew"]]), []))
    return found


def numbered(tree, number):
    """The tree with the line of each of its rows, and the line behind it."""
    found = []
    for words, below in tree:
        line = number
        children, number = numbered(below, number + 1)
        found.append((words, line, children))
    return found, number


def ways_of(tree):
    """For each way through a tree the lines of its asks: each if goes either way."""
    ways = [[]]
    for n, (words, line, below) in enumerate(tree):
        if words[0] == "ask":
            ways = [way + [line] for way in ways]
        elif words[0] == "if":
            other = tree[n + 1][2] if n + 1 < len(tree) and tree[n + 1][0] == ["else"] else []
            ways = [way + rest for way in ways for rest in ways_of(below) + (ways_of(other) if other else [[]])]
    return ways


def first_too_many(tree, most, line):
    """The line of the first ask that is too many on some way, None if there is none."""
    return min([way[most] for way in ways_of(numbered(tree, line)[0]) if len(way) > most], default=None)


class Drawn(Bad):
    def test_a_strange_line_anywhere(self):
        for seed in range(100):
            draw = random.Random(seed)
            tree = tree_of(drawn_text(draw))
            rows = text_of(tree).split("\n")
            for at in range(len(rows) + 1):
                strange = draw.choice(["x", "  set", "    answer it it", "      nothing", "  cell it 0", "    ask ask ask"])
                self.assertEqual(line_of("\n".join(rows[:at] + [strange] + rows[at:])), at + 1)


if __name__ == "__main__":
    unittest.main()
