"""Section 4: programs that are read, their properties, and when they are equal."""

import random
import unittest

from lastasked.errors import BadText
from lastasked.programs import Program
from tests.helper import BARE, FULL, behind, comes, deed, does, drawn_text, made, tree_of

class Read(unittest.TestCase):
    def same(self, got, wanted):
        self.assertEqual(repr(got), repr(wanted))

    def test_full(self):
        program = made(*FULL)
        self.same(program.text, "\n".join(FULL))
        self.same(program.worths, 4)
        self.same(program.in_order, True)
        self.same(program.house, (("n", 3), ("m", 0)))
        self.same(program.asks, (("save", "last", "one", "none"), ("load", "any", "latest", "only"),
                                 ("find", "rising", "queued", "both")))
        self.same(program.cells, (("v", 0, "redone"), ("w", 1, "kept"), ("x", 2, "kept"), ("y", 3, "redone")))
        self.same(program.shows, ("x", "v"))
        self.same(program.deeds, (("pick", 3), ("tap", 0), ("type", 1)))

    def test_bare(self):
        program = made(*BARE)
        self.same(program.text, "\n".join(BARE))
        self.same([program.worths, program.in_order, program.house, program.asks], [
            2, False, (), (("a", "any", "many", "none"),)])
        self.same([program.cells, program.shows, program.deeds], [(("c", 0, "kept"),), ("c",), (("d", 0),)])

    def test_each_word(self):
        for line, place, word in (
                ("  take a last", 1, "last"), ("  take a rising", 1, "rising"),
                ("  send a one", 2, "one"), ("  send a latest", 2, "latest"),
                ("  send a queued", 2, "queued"), ("  send a resting", 2, "resting"),
                ("  keep a only", 3, "only"), ("  keep a both", 3, "both")):
            with self.subTest(line):
                program = made(*BARE[:6], line, *BARE[6:])
                wanted = ["a", "any", "many", "none"]
                wanted[place] = word
                self.same(program.asks, (tuple(wanted),))
        self.same(made(*BARE[:6], "  back c redone", *BARE[6:]).cells, (("c", 0, "redone"),))

    def test_in_order_alone(self):
        self.same(made(*BARE[:2], "  in order", *BARE[2:]).in_order, True)

    def test_worths(self):
        for worths in (2, 3, 4):
            for first in range(worths):
                program = made(f"worths {worths}", *BARE[1:2], f"  cell h {first}", *BARE[2:4], f"  cell c {first}",
                               *BARE[5:])
                self.same([program.worths, program.house, program.cells], [
                    worths, (("h", first),), (("c", first, "kept"),)])
            for upto in range(1, worths):
                self.same(made(f"worths {worths}", *BARE[1:6], f"  deed d upto {upto}", *BARE[7:]).deeds, (("d", upto),))

    def test_names_that_are_words(self):
        words = ["worths", "house", "in", "order", "cell", "ask", "screen", "show", "unsure", "take", "last", "rising",
                 "send", "one", "latest", "queued", "resting", "keep", "only", "both", "back", "redone", "deed", "upto",
                 "answer", "refused", "over", "set", "add", "refuse", "if", "else", "guess", "off", "forget", "anew",
                 "many", "none", "any", "kept", "a", "zz", "abcdefgh", "itit", "i", "t", "asks"]
        for word in words:
            with self.subTest(word):
                program = made(
                    "worths 2", "house", f"  cell {word} 1", f"  ask {word}", f"    set {word} {word}",
                    f"    if {word} = {word}", f"      answer {word}", "screen", f"  cell {word} 1", f"  show {word}",
                    f"  unsure {word} = 0", f"  take {word} last", f"  send {word} one", f"  keep {word} both",
                    f"  back {word} redone", f"  deed {word} upto 1", f"    ask {word} {word} guess {word} + {word}",
                    f"    off {word}", f"    forget {word}", f"  answer {word}", f"    add {word} {word}",
                    f"  refused {word}", f"    if {word} = it", f"      set {word} asked")
                self.same(program.house, ((word, 1),))
                self.same(program.asks, ((word, "last", "one", "both"),))
                self.same([program.cells, program.shows, program.deeds], [((word, 1, "redone"),), (word,), ((word, 1),)])

    def test_the_same_name_for_unlike_things(self):
        program = made("worths 2", "house", "  cell n 0", "  ask n", "screen", "  cell n 1", "  show n", "  deed n",
                       "    ask n n")
        self.same([program.house, program.asks[0][0], program.cells[0][0], program.deeds], [
            (("n", 0),), "n", "n", (("n", 0),)])

    def test_bounds_that_are_let(self):
        sets = ["    set c 0"] * 8
        made("worths 2", "house", "  cell n 0", "  cell m 0", "  ask a", *["    set n 0"] * 8, "  ask b", "  ask abcdefgh",
             "screen", "  cell c 0", "  cell d 0", "  cell e 0", "  cell f 0", "  show c d", "  unsure c = 0",
             "  unsure c = 0", "  deed d", *sets, "  deed e", *sets, "  deed f", *sets[1:], "    if c = 0",
             *["      set c 0"] * 8, "    else", *["      set c 0"] * 8, "  answer a", *sets, "  refused a", *sets,
             "  over", *sets)

    def test_eight_below_each_if(self):
        rows = ["    if c = 0", "      if c = 1", *["        anew"] * 8, "      else", *["        anew"] * 8, "    else",
                "      if c = 1", *["        anew"] * 8, "      else", *["        anew"] * 8]
        made(*BARE[:7], *rows)
        house = ["    if it = 0", "      if it = 1", *["        refuse"] * 8, "      else", *["        answer 0"] * 8,
                 "    else", "      if it = 1", *["        refuse"] * 8, "      else", *["        answer it"] * 8]
        made(*BARE[:3], *house, *BARE[3:])

    def test_handlers_in_their_sequence(self):
        rows = ["  answer a", "    anew", "  refused a", "    anew", "  answer b", "    anew", "  refused b", "    anew"]
        for kept in range(16):
            chosen = [row for n in range(4) if kept >> n & 1 for row in rows[2 * n:2 * n + 2]]
            made(*BARE[:3], "  ask b", *BARE[3:], *chosen)
            made(*BARE[:3], "  ask b", *BARE[3:], *chosen, "  over", "    anew")

    def test_what_over_says_is_read(self):
        program = made(*FULL)
        self.assertEqual(program.text.split("\n")[-6:][0], "  over")
        made(*BARE, "  over", "    off a", "    forget a", "    ask a c guess c = c")

    def test_read_as_written(self):
        # What is written is what is done: cells by their names, guesses by their signs.
        program = made("worths 4", "house", "  cell n 1", "  cell m 2", "  ask a", "    add m n", "    set n it",
                       "    answer m", "screen", "  cell c 1", "  cell d 0", "  show d c", "  deed go upto 3",
                       "    ask a it guess d + it guess c = 3", "  answer a", "    set d it", "    add c asked")
        stand = behind(program, deed("go", 2))
        self.same(stand, ((1, 2), (3, 2), (), (("a", 2, "out", 0, "live", (("c", 1), ("d", 0))),)))
        self.same(behind(program, does(0), comes(0), stand=stand), ((2, 3), (1, 3), (), ()))

    def test_drawn(self):
        for seed in range(300):
            text = drawn_text(random.Random(seed))
            program, tree = Program(text), tree_of(text)
            house, screen = tree[1][1], tree[2][1]

            def words(word, names, plain):
                found = {line[1]: line[2] for line, _ in screen if line[0] == word}
                return [found.get(name, plain) for name in names]

            asks = [line[1] for line, _ in house if line[0] == "ask"]
            cells = [line[1] for line, _ in screen if line[0] == "cell"]
            firsts = [int(line[2]) for line, _ in screen if line[0] == "cell"]
            deeds = [(line[1], int((line + ["upto", "0"])[3])) for line, _ in screen if line[0] == "deed"]
            self.same(program.text, text)
            self.same(program.worths, int(tree[0][0][1]))
            self.same(program.in_order, house[0][0][0] == "in")
            self.same(program.house, tuple((line[1], int(line[2])) for line, _ in house if line[0] == "cell"))
            self.same(program.asks, tuple(zip(asks, words("take", asks, "any"), words("send", asks, "many"),
                                              words("keep", asks, "none"))))
            self.same(program.cells, tuple(zip(cells, firsts, words("back", cells, "kept"))))
            self.same([program.shows], [tuple(line[1:]) for line, _ in screen if line[0] == "show"])
            self.same(program.deeds, tuple(deeds))


class Equal(unittest.TestCase):
    def test_equal_texts(self):
        self.assertTrue(made(*FULL) == made(*FULL))
        self.assertFalse(made(*FULL) != made(*FULL))

    def test_other_texts(self):
        # Alike in all that they do, but not in their texts.
        one = made(*BARE[:6], *BARE[6:7], "    set c 1", "    add c 1", "    anew")
        self.assertFalse(made(*BARE) == one)
        self.assertTrue(made(*BARE) != one)
        self.assertFalse(made(*BARE) == made("worths 3", *BARE[1:]))

    def test_nothing_else(self):
        program = made(*BARE)
        for value in (program.text, None, 0, True, (), [program], (program.text,), {"text": program.text}):
            self.assertFalse(program == value)
            self.assertTrue(program != value)

    def test_the_same_again(self):
        text = "\n".join(FULL)
        one, two = Program(text), Program(text)
        for name in ("text", "worths", "in_order", "house", "asks", "cells", "shows", "deeds"):
            self.assertEqual(getattr(one, name), getattr(two, name))

    def test_bad_text_is_one_error(self):
        with self.assertRaises(BadText):
            Program("")


if __name__ == "__main__":
    unittest.main()
