"""Section 5: what the house does for an ask."""

import unittest

from tests.helper import behind, comes, deed, does, made


def asked(*rows, cells=("  cell n 3", "  cell m 1"), worths=4):
    """A program whose deed go asks save with its worth; the rows tell what the house does."""
    return made(f"worths {worths}", "house", *cells, "  ask save", *rows, "screen", "  cell c 0", "  show c",
                f"  deed go upto {worths - 1}", "    ask save it")


class House(unittest.TestCase):
    def told(self, house, phase, answer, program, it):
        stand = behind(program, deed("go", it), does(0))
        wanted = (house, (0,), (), (("save", it, phase, answer, "live", ()),))
        self.assertEqual(repr(stand), repr(wanted))

    def test_nothing_told(self):
        for it in range(4):
            self.told((3, 1), "answered", 0, asked(), it)
            self.told((), "answered", 0, asked(cells=()), it)

    def test_behind_the_last_statement(self):
        self.told((2, 1), "answered", 0, asked("    set n it"), 2)
        self.told((3, 1), "answered", 0, asked("    if it = 1", "      answer 2"), 2)

    def test_set(self):
        self.told((2, 1), "answered", 0, asked("    set n 2"), 1)
        self.told((3, 2), "answered", 0, asked("    set m it"), 2)
        self.told((1, 1), "answered", 0, asked("    set n m"), 2)
        self.told((3, 3), "answered", 0, asked("    set m n"), 2)

    def test_add_goes_round(self):
        self.told((1, 1), "answered", 0, asked("    add n 2"), 0)
        self.told((3, 0), "answered", 0, asked("    add m it"), 3)
        self.told((0, 1), "answered", 0, asked("    add n m"), 0)
        self.told((2, 1), "answered", 0, asked("    add n n"), 0)
        self.told((1,), "answered", 0, asked("    add n it", cells=("  cell n 0",), worths=2), 1)
        self.told((0,), "answered", 0, asked("    add n it", cells=("  cell n 1",), worths=2), 1)
        self.told((1,), "answered", 0, asked("    add n it", cells=("  cell n 2",), worths=3), 2)

    def test_one_behind_the_other(self):
        program = asked("    set n it", "    add n 1", "    set m n", "    add m m", "    answer n")
        self.told((2, 0), "answered", 2, program, 1)
        self.told((0, 0), "answered", 0, program, 3)

    def test_answer(self):
        self.told((3, 1), "answered", 2, asked("    answer 2"), 1)
        self.told((3, 1), "answered", 3, asked("    answer it"), 3)
        self.told((3, 1), "answered", 3, asked("    answer n"), 0)
        self.told((3, 1), "answered", 1, asked("    answer m"), 0)

    def test_answer_ends(self):
        self.told((2, 1), "answered", 1, asked("    set n 2", "    answer 1", "    set n 0", "    answer 3"), 0)
        self.told((3, 1), "answered", 0, asked("    answer 0", "    refuse"), 0)

    def test_refuse_ends_and_what_was_set_stays(self):
        self.told((2, 1), "refused", 0, asked("    set n 2", "    refuse", "    set m 0", "    answer 3"), 3)
        self.told((3, 1), "refused", 0, asked("    refuse"), 3)

    def test_ends_within_an_if(self):
        program = asked("    if it = 2", "      set n 0", "      refuse", "      set n 1", "    set m 3", "    answer 1")
        self.told((0, 1), "refused", 0, program, 2)
        self.told((3, 3), "answered", 1, program, 1)
        program = asked("    if it = 2", "      answer 0", "    set m 3", "    answer 1")
        self.told((3, 1), "answered", 0, program, 2)
        self.told((3, 3), "answered", 1, program, 0)

    def test_ends_within_two_ifs(self):
        program = asked(
            "    if it = n", "      add m 1", "      if m = 2", "        answer 3", "      set n 0", "    else",
            "      if it = 0", "        refuse", "      else", "        answer it", "      set n 2", "    set n 1")
        self.told((3, 2), "answered", 3, program, 3)
        self.told((3, 1), "refused", 0, program, 0)
        self.told((3, 1), "answered", 1, program, 1)
        self.told((3, 1), "answered", 2, program, 2)

    def test_if_by_a_worth_a_cell_it(self):
        for left, right, holds in (("1", "1", True), ("1", "2", False), ("n", "3", True), ("3", "n", True), ("n", "m", False),
                                   ("m", "m", True), ("it", "2", True), ("2", "it", True), ("it", "n", False), ("it", "it", True),
                                   ("m", "it", False)):
            program = asked(f"    if {left} = {right}", "      answer 1", "    else", "      answer 2")
            self.told((3, 1), "answered", 1 if holds else 2, program, 2)
            program = asked(f"    if {left} = {right}", "      set n 0")
            self.told((0 if holds else 3, 1), "answered", 0, program, 2)

    def test_if_reads_what_was_set(self):
        program = asked("    set n it", "    if n = 2", "      set n 0", "    if n = 0", "      set m 3")
        self.told((0, 3), "answered", 0, program, 2)
        self.told((1, 1), "answered", 0, program, 1)

    def test_only_one_of_if_and_else(self):
        # What the if did does not make its else hold.
        program = asked("    if n = 3", "      set n 0", "    else", "      set m 0")
        self.told((0, 1), "answered", 0, program, 0)

    def test_house_keeps_its_cells(self):
        program = asked("    add n it", "    answer n")
        stand = behind(program, deed("go", 2), does(0), comes(0), deed("go", 3), deed("go", 1), does(1), does(0))
        self.assertEqual(stand[0], (1, 1))
        self.assertEqual([task[:4] for task in stand[3]], [("save", 3, "answered", 1), ("save", 1, "answered", 2)])

    def test_each_ask_its_own(self):
        program = made("worths 3", "house", "  cell n 0", "  ask save", "    set n it", "  ask load", "    answer n",
                       "  ask find", "screen", "  cell c 0", "  show c", "  deed go upto 2", "    ask save it",
                       "    ask load 0", "  deed seek", "    ask find 2")
        stand = behind(program, deed("go", 2), deed("seek"), does(1), does(0), does(2))
        self.assertEqual(stand[0], (2,))
        self.assertEqual(stand[3], (("save", 2, "answered", 0, "live", ()), ("load", 0, "answered", 0, "live", ()),
                                    ("find", 2, "answered", 0, "live", ())))
        stand = behind(program, deed("go", 2), does(0), does(1))
        self.assertEqual(stand[3][1], ("load", 0, "answered", 2, "live", ()))

    def test_it_is_what_is_asked_with(self):
        program = made("worths 4", "house", "  cell n 0", "  ask save", "    set n it", "    answer it", "screen",
                       "  cell c 2", "  show c", "  deed go upto 3", "    ask save c")
        stand = behind(program, deed("go", 3), does(0))
        self.assertEqual(stand, ((2,), (2,), (), (("save", 2, "answered", 2, "live", ()),)))

    def test_screen_does_not_change(self):
        program = made("worths 3", "house", "  cell c 0", "  ask save", "    set c 2", "screen", "  cell c 1", "  show c",
                       "  back c redone", "  deed go", "    ask save 1 guess c + 1")
        stand = behind(program, deed("go"), does(0))
        self.assertEqual(stand, ((2,), ((1, (("add", 1, 0),)),), (), (("save", 1, "answered", 0, "live", ()),)))


if __name__ == "__main__":
    unittest.main()
