"""Section 5: what the statements of the screen do, and section 6: whose handlers are done."""

import unittest

from lastasked.moves import moves
from lastasked.stands import first_stand, shown
from tests.helper import behind, comes, deed, does, made, sends

HEAD = ("worths 4", "house", "  cell n 1", "  ask save", "    if it = 3", "      refuse", "    add n it", "    answer n",
        "  ask load", "    answer it", "screen", "  cell c 0", "  cell d 1", "  cell e 2", "  cell f 3", "  show c d")


class Handlers(unittest.TestCase):
    def cells(self, wanted, program, *story):
        self.assertEqual(repr(behind(program, *story)[1]), repr(wanted))

    def test_deed_reads_it(self):
        program = made(*HEAD, "  deed go upto 3", "    set c it", "    add d it", "  deed stay", "    set e it")
        for it in range(4):
            self.cells((it, (1 + it) % 4, 2, 3), program, deed("go", it))
        self.cells((0, 1, 0, 3), program, deed("stay"))

    def test_set_and_add(self):
        program = made(*HEAD, "  deed go", "    set c 3", "    add c 2", "    add d f", "    set e d", "    add f f")
        self.cells((1, 0, 0, 2), program, deed("go"))

    def test_add_goes_round_at_each_number_of_worths(self):
        for worths in (2, 3, 4):
            top = worths - 1
            program = made(f"worths {worths}", "house", "  ask save", "screen", f"  cell c {top}", "  show c",
                           f"  deed go upto {top}", "    add c it")
            for it in range(worths):
                self.cells(((top + it) % worths,), program, deed("go", it))

    def test_if_and_else(self):
        for left, right, holds in (("it", "2", True), ("2", "it", True), ("c", "0", True), ("c", "d", False),
                                   ("e", "it", True), ("1", "1", True), ("0", "1", False), ("f", "f", True)):
            program = made(*HEAD, "  deed go upto 3", f"    if {left} = {right}", "      set c 3", "    else", "      set d 3")
            self.cells((3, 1, 2, 3) if holds else (0, 3, 2, 3), program, deed("go", 2))
            program = made(*HEAD, "  deed go upto 3", f"    if {left} = {right}", "      set c 3", "    add f 1")
            self.cells((3, 1, 2, 0) if holds else (0, 1, 2, 0), program, deed("go", 2))

    def test_two_ifs_deep(self):
        program = made(
            *HEAD, "  deed go upto 3", "    if it = 0", "      if c = 0", "        set c 1", "      else", "        set c 2",
            "      set d 0", "    else", "      if it = 1", "        set c 3", "      else", "        set f 0", "    set e 0")
        self.cells((1, 0, 0, 3), program, deed("go", 0))
        self.cells((2, 0, 0, 3), program, deed("go", 0), deed("go", 0))
        self.cells((3, 1, 0, 3), program, deed("go", 1))
        self.cells((0, 1, 0, 0), program, deed("go", 2))

    def test_what_the_if_did_does_not_make_its_else_hold(self):
        program = made(*HEAD, "  deed go", "    if c = 0", "      set c 1", "    else", "      set d 3")
        self.cells((1, 1, 2, 3), program, deed("go"))

    def test_answer_reads_it_and_asked(self):
        program = made(*HEAD, "  deed go upto 3", "    ask save it", "  answer save", "    set c it", "    set d asked",
                       "    add e it", "    add f asked")
        # n is 1: asked with 2, 3 is answered.
        self.cells((3, 2, 1, 1), program, deed("go", 2), does(0), comes(0))
        self.cells((1, 0, 3, 3), program, deed("go", 0), does(0), comes(0))

    def test_refused_reads_0_and_asked(self):
        program = made(*HEAD, "  deed go upto 3", "    ask save it", "  answer save", "    set e 0", "  refused save",
                       "    set d it", "    set c asked", "    if asked = 3", "      set f it")
        self.cells((3, 0, 2, 0), program, deed("go", 3), does(0), comes(0))
        self.cells((0, 1, 0, 3), program, deed("go", 2), does(0), comes(0))

    def test_ifs_by_it_and_asked(self):
        program = made(*HEAD, "  deed go upto 3", "    ask load it", "  answer load", "    if it = asked", "      set c 3",
                       "    if it = 1", "      set d 3", "    if asked = 2", "      set e 3", "    if 1 = asked", "      set f 0")
        self.cells((3, 3, 2, 0), program, deed("go", 1), does(0), comes(0))
        self.cells((3, 1, 3, 3), program, deed("go", 2), does(0), comes(0))

    def test_each_ask_its_own_handler(self):
        program = made(*HEAD, "  deed go upto 3", "    ask save it", "    ask load it", "  answer save", "    set c 3",
                       "  refused save", "    set d 3", "  answer load", "    set e 0")
        self.cells((3, 1, 2, 3), program, deed("go", 1), does(0), comes(0))
        self.cells((0, 3, 2, 3), program, deed("go", 3), does(0), comes(0))
        self.cells((0, 1, 0, 3), program, deed("go", 3), does(1), comes(1))

    def test_answer_without_a_handler(self):
        program = made(*HEAD, "  deed go upto 3", "    ask save it guess c = 3", "  answer load", "    set d 0")
        self.assertEqual(behind(program, deed("go", 1), does(0), comes(0)), ((2,), (3, 1, 2, 3), (), ()))
        self.assertEqual(behind(program, deed("go", 3), does(0), comes(0)), ((1,), (0, 1, 2, 3), (), ()))

    def test_several_asks_of_a_deed(self):
        program = made(*HEAD, "  deed go upto 3", "    ask load 3", "    set c 2", "    ask save c", "    set c 1")
        self.assertEqual(behind(program, deed("go"))[1:], (
            (1, 1, 2, 3), (), (("load", 3, "out", 0, "live", ()), ("save", 2, "out", 0, "live", ()))))

    def test_answer_asks(self):
        program = made(*HEAD, "  deed go upto 3", "    ask save it", "  answer save", "    ask load it guess c = asked",
                       "  refused save", "    ask load asked", "  answer load", "    set d asked")
        stand = behind(program, deed("go", 2), does(0), comes(0))
        self.assertEqual(stand, ((3,), (2, 1, 2, 3), (), (("load", 3, "out", 0, "live", (("c", 0),)),)))
        self.cells((2, 3, 2, 3), program, deed("go", 2), does(0), comes(0), does(0), comes(0))
        stand = behind(program, deed("go", 3), does(0), comes(0))
        self.assertEqual(stand[3], (("load", 3, "out", 0, "live", ()),))

    def test_asks_that_come_stand_behind_those_that_are_out(self):
        program = made(*HEAD, "  deed go upto 3", "    ask save it", "  answer save", "    ask load it")
        stand = behind(program, deed("go", 0), deed("go", 1), does(0), comes(0))
        self.assertEqual(stand[3], (("save", 1, "out", 0, "live", ()), ("load", 1, "out", 0, "live", ())))

    def test_passed_ones_are_not_handled(self):
        program = made(*HEAD, "  take save last", "  deed go upto 3", "    ask save it", "  answer save", "    set c asked",
                       "  refused save", "    set d asked")
        story = (deed("go", 1), deed("go", 2), does(0), comes(0))
        self.cells((0, 1, 2, 3), program, *story)
        self.cells((2, 1, 2, 3), program, *story, does(0), comes(0))
        self.cells((0, 1, 2, 3), program, deed("go", 3), deed("go", 2), does(0), comes(0))
        self.cells((0, 3, 2, 3), program, deed("go", 2), deed("go", 3), does(1), comes(1))

    def test_over_is_not_done(self):
        program = made(*HEAD, "  deed go", "    ask load 1", "  over", "    set c 3", "    ask save 1")
        self.assertEqual(behind(program, deed("go"), does(0), comes(0)), ((1,), (0, 1, 2, 3), (), ()))
        self.assertEqual(moves(program, first_stand(program), 4), (("deed", "go", 0),))


class WorkedOutFirst(unittest.TestCase):
    """E of an ask and of its guesses, ahead of what send does."""

    def test_guesses_read_what_was_ahead_of_them(self):
        program = made(*HEAD, "  deed go", "    ask load 0 guess c = d guess d = c")
        self.assertEqual(behind(program, deed("go"))[1], (1, 0, 2, 3))
        program = made(*HEAD, "  deed go", "    ask load c guess c = 3 guess d + c")
        self.assertEqual(behind(program, deed("go")), (
            (1,), (3, 1, 2, 3), (), (("load", 0, "out", 0, "live", (("c", 0), ("d", 1))),)))

    def test_ahead_of_what_is_taken_back(self):
        for send in ("latest", "resting"):
            program = made("worths 4", "house", "  ask save", "screen", "  cell c 0", "  cell d 0", "  show c",
                           f"  send save {send}", "  deed go", "    ask save c guess c + 1 guess d = c")
            stand = behind(program, deed("go"), deed("go"), deed("go"))
            if send == "latest":
                # The third reads c = 2; the second is taken back, so that c is 1 and d is 0 ahead of its guesses.
                self.assertEqual(stand[1], (2, 2))
                self.assertEqual(stand[3], (("save", 0, "out", 0, "live", (("c", 0), ("d", 0))),
                                            ("save", 2, "held", 0, "live", (("c", 1), ("d", 0)))))
            else:
                # resting: each one takes the place of the one ahead of it; c is 0 again, then 1.
                self.assertEqual(stand[1], (1, 1))
                self.assertEqual(stand[3], (("save", 1, "held", 0, "live", (("c", 0), ("d", 0))),))

    def test_of_rows(self):
        program = made("worths 4", "house", "  ask save", "screen", "  cell c 1", "  show c", "  send save resting",
                       "  back c redone", "  deed go", "    ask save c guess c + c")
        stand = behind(program, deed("go"), deed("go"))
        self.assertEqual(stand, ((), ((1, (("add", 2, 0),)),), (), (("save", 2, "held", 0, "live", ()),)))
        self.assertEqual(shown(program, stand), (3,))


class Anew(unittest.TestCase):
    def test_cells_become_as_at_first(self):
        program = made(*HEAD, "  back d redone", "  deed go", "    set c 3", "    set d 3", "    set e 0", "    set f 0",
                       "  deed new", "    anew")
        self.assertEqual(behind(program, deed("go"))[1], (3, (3, ()), 0, 0))
        self.assertEqual(behind(program, deed("go"), deed("new"))[1], (0, (1, ()), 2, 3))

    def test_guesses_are_nothing(self):
        program = made(*HEAD, "  back d redone", "  deed go upto 3", "    ask save it guess c = 3 guess d = 3", "  deed new",
                       "    anew", "    add f 1")
        stand = behind(program, deed("go", 3), deed("go", 1))
        self.assertEqual(stand[1:], ((3, (1, (("set", 3, 0), ("set", 3, 1))), 2, 3), (), (
            ("save", 3, "out", 0, "live", (("c", 0),)), ("save", 1, "out", 0, "live", (("c", 3),)))))
        stand = behind(program, deed("new"), stand=stand)
        self.assertEqual(stand, ((1,), (0, (1, ()), 2, 0), (), (
            ("save", 3, "out", 0, "live", ()), ("save", 1, "out", 0, "live", ()))))
        # Neither refused nor answered they do anything more.
        stand = behind(program, does(0), comes(0), does(0), comes(0), stand=stand)
        self.assertEqual(stand, ((2,), (0, (1, ()), 2, 0), (), ()))

    def test_of_held_and_answered_ones(self):
        program = made(*HEAD, "  send load queued", "  deed go upto 3", "    ask load it guess e = it", "  deed new", "    anew")
        stand = behind(program, deed("go", 0), deed("go", 1), does(0), deed("new"))
        self.assertEqual(stand[1:], ((0, 1, 2, 3), (), (
            ("load", 0, "answered", 0, "live", ()), ("load", 1, "held", 0, "live", ()))))

    def test_stores_and_house_stay(self):
        program = made(*HEAD, "  keep save both", "  deed go upto 3", "    ask save it", "  deed new", "    anew")
        stand = behind(program, deed("go", 2), does(0), comes(0), deed("new"))
        self.assertEqual(stand, ((3,), (0, 1, 2, 3), (((2, 3),),), ()))

    def test_asks_behind_it(self):
        program = made(*HEAD, "  deed go upto 3", "    add c 1", "    ask load 0 guess c + 1", "    anew",
                       "    ask load 1 guess c + 2")
        stand = behind(program, deed("go"))
        self.assertEqual(stand[1:], ((2, 1, 2, 3), (), (
            ("load", 0, "out", 0, "live", ()), ("load", 1, "out", 0, "live", (("c", 0),)))))

    def test_statements_read_the_first_worths_behind_it(self):
        program = made(*HEAD, "  deed go", "    set c 3", "    anew", "    add c f", "    set d e")
        self.assertEqual(behind(program, deed("go"))[1], (3, 2, 2, 3))


class Shown(unittest.TestCase):
    def test_shown_cells(self):
        program = made(*HEAD[:-1], "  show f", "  deed go", "    set f 0")
        self.assertEqual(shown(program, first_stand(program)), (3,))
        self.assertEqual(shown(program, behind(program, deed("go"))), (0,))
        program = made(*HEAD[:-1], "  show e c", "  deed go", "    set c 1")
        self.assertEqual(shown(program, first_stand(program)), (2, 0))
        self.assertEqual(shown(program, behind(program, deed("go"))), (2, 1))

    def test_unsure(self):
        program = made(*HEAD, "  unsure c = 1", "  unsure e = 0", "  deed go upto 3", "    set c it", "  deed e upto 3",
                       "    set e it")
        for c in range(4):
            for e in range(4):
                wanted = None if c == 1 or e == 0 else (c, 1)
                self.assertEqual(repr(shown(program, behind(program, deed("go", c), deed("e", e)))), repr(wanted))

    def test_unsure_at_first(self):
        self.assertIsNone(shown(made(*HEAD, "  unsure f = 3", "  unsure f = 3", "  deed go", "    anew"),
                                ((1,), (0, 1, 2, 3), (), ())))

    def test_rows(self):
        program = made(*HEAD, "  unsure e = 3", "  back c redone", "  back e redone", "  deed go upto 3",
                       "    ask save it guess c + it guess e = it")
        stand = behind(program, deed("go", 1), deed("go", 2))
        self.assertEqual(shown(program, stand), (3, 1))
        self.assertIsNone(shown(program, behind(program, deed("go", 3), stand=stand)))
        self.assertEqual(shown(program, behind(program, deed("go", 3), deed("go", 1), stand=stand)), (3, 1))

    def test_adds_and_sets_of_a_row(self):
        program = made("worths 3", "house", "  ask a", "screen", "  cell c 2", "  show c", "  back c redone", "  deed d",
                       "    ask a 0")
        tasks = tuple(("a", 0, "out", 0, "live", ()) for _ in range(4))
        for base, entries, wanted in (
                (2, (), 2), (2, (("add", 2, 0),), 1), (2, (("set", 0, 0),), 0), (1, (("set", 2, 3), ("add", 2, 1)), 1),
                (1, (("add", 2, 3), ("set", 1, -1), ("add", 0, 0)), 1), (0, (("add", 1, 0), ("add", 1, 1), ("add", 1, 2)), 0)):
            self.assertEqual(shown(program, ((), ((base, entries),), (), tasks)), (wanted,))


class Held(unittest.TestCase):
    def test_what_a_handler_asks_is_sent_as_send_tells(self):
        program = made(*HEAD, "  send load resting", "  deed go", "    ask save 1", "  answer save", "    ask load it")
        stand = behind(program, deed("go"), does(0), comes(0))
        self.assertEqual(stand[3], (("load", 2, "held", 0, "live", ()),))
        self.assertEqual(behind(program, sends(0), stand=stand)[3], (("load", 2, "out", 0, "live", ()),))


if __name__ == "__main__":
    unittest.main()
