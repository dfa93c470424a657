"""Section 6: guesses of kept and of redone cells."""

import unittest

from lastasked.stands import is_stand, shown
from tests.helper import behind, comes, deed, does, gone, made, sends


def task(worth, phase="out", mark="live", had=(), ask="save", answer=0):
    return (ask, worth, phase, answer, mark, had)


def out(worth, *had, ask="save"):
    return task(worth, had=had, ask=ask)


class Told(unittest.TestCase):
    def told(self, wanted, stand):
        self.assertEqual(repr(stand), repr(wanted))


class Kept(Told):
    """The house refuses 3."""

    DEEDS = ("  deed go upto 3", "    ask save it guess c = it", "  deed plus upto 3", "    ask save it guess c + it")

    def saving(self, *handlers, lines=(), deeds=DEEDS):
        return made("worths 4", "house", "  ask save", "    if it = 3", "      refuse", "    answer it", "screen", "  cell c 1",
                    "  cell d 2", "  show c", *lines, *deeds, *handlers)

    def test_worth_is_written_and_had_is_kept(self):
        program = self.saving()
        self.told(((), (3, 2), (), (out(3, ("c", 1)),)), behind(program, deed("go", 3)))
        self.told(((), (0, 2), (), (out(3, ("c", 1)),)), behind(program, deed("plus", 3)))
        self.told(((), (1, 2), (), (out(0, ("c", 1)),)), behind(program, deed("plus", 0)))
        self.told(((), (3, 2), (), (out(2, ("c", 1)), out(0, ("c", 3)), out(3, ("c", 0)))),
                  behind(program, deed("plus", 2), deed("go", 0), deed("go", 3)))

    def test_an_answer_settles_by_nothing(self):
        program = self.saving()
        stand = behind(program, deed("plus", 2), does(0))
        self.told(((), (3, 2), (), (("save", 2, "answered", 2, "live", (("c", 1),)),)), stand)
        self.told(((), (3, 2), (), ()), behind(program, comes(0), stand=stand))

    def test_a_refusal_takes_back(self):
        program = self.saving()
        stand = behind(program, deed("go", 3), does(0))
        self.told(((), (3, 2), (), (("save", 3, "refused", 0, "live", (("c", 1),)),)), stand)
        self.told(((), (1, 2), (), ()), behind(program, comes(0), stand=stand))

    def test_a_refusal_puts_had_back_over_all(self):
        program = self.saving()
        stand = behind(program, deed("go", 3), deed("go", 2), does(0), comes(0))
        self.told(((), (1, 2), (), (out(2, ("c", 3)),)), stand)
        stand = behind(program, deed("go", 3), deed("plus", 3), does(1), comes(1))
        self.told(((), (3, 2), (), (out(3, ("c", 1)),)), stand)

    def test_also_if_it_is_passed(self):
        program = self.saving("  answer save", "    set d 0", lines=("  take save last",))
        stand = behind(program, deed("go", 3), deed("go", 2), does(0), comes(0))
        self.told(((), (1, 2), (), (out(2, ("c", 3)),)), stand)
        stand = behind(program, deed("go", 0), deed("go", 2), does(0), comes(0))
        self.told(((), (2, 2), (), (out(2, ("c", 0)),)), stand)

    def test_ahead_of_the_handler(self):
        program = self.saving("  refused save", "    set d c")
        self.told(((), (1, 1), (), ()), behind(program, deed("go", 3), does(0), comes(0)))

    def test_written_by_the_handler(self):
        program = self.saving("  answer save", "    add c 1")
        self.told(((), (3, 2), (), (out(2, ("c", 2)),)), behind(program, deed("go", 2), deed("go", 2), does(0), comes(0)))

    def test_two_cells_in_the_sequence_of_the_cells(self):
        for guesses in ("guess d = 3 guess c + 1", "guess c + 1 guess d = 3"):
            program = self.saving(deeds=("  deed go", f"    ask save 3 {guesses}"))
            stand = behind(program, deed("go"))
            self.told(((), (2, 3), (), (out(3, ("c", 1), ("d", 2)),)), stand)
            self.told(((), (1, 2), (), ()), behind(program, does(0), comes(0), stand=stand))

    def test_had_of_the_second_ask_of_a_deed(self):
        program = self.saving(deeds=("  deed go", "    ask save 1 guess c = 0", "    ask save 3 guess c + 3"))
        self.told(((), (3, 2), (), (out(1, ("c", 1)), out(3, ("c", 0)))), behind(program, deed("go")))

    def test_a_guess_that_changes_nothing_is_one_all_the_same(self):
        program = self.saving(deeds=("  deed go", "    ask save 3 guess c = 1", "  deed set", "    set c 3"))
        self.told(((), (1, 2), (), ()), behind(program, deed("go"), deed("set"), does(0), comes(0)))


class Redone(Told):
    """The house refuses 3 of save; c is redone."""

    def saving(self, *handlers, lines=(), worths=4):
        return made(f"worths {worths}", "house", "  ask save", f"    if it = {worths - 1}", "      refuse", "    answer it",
                    "  ask load", "    answer it", "screen", "  cell c 1", "  cell d 2", "  show c", *lines, "  back c redone",
                    f"  deed go upto {worths - 1}", "    ask save it guess c = it", f"  deed plus upto {worths - 1}",
                    "    ask save it guess c + it", "  deed write", "    add c 1", *handlers)

    def row(self, wanted, program, *story, stand=None):
        got = behind(program, *story, stand=stand)
        self.told(wanted, got[1][0])
        self.assertTrue(is_stand(program, got))
        return got

    def test_guesses_stand_in_the_row(self):
        program = self.saving()
        stand = self.row((1, (("set", 2, 0), ("add", 3, 1), ("add", 0, 2))), program, deed("go", 2), deed("plus", 3),
                         deed("plus", 0))
        self.assertEqual(shown(program, stand), (1,))
        self.told((out(2), out(3), out(0)), stand[3])

    def test_answered_ones_become_sure(self):
        program = self.saving()
        begun = behind(program, deed("plus", 1), deed("plus", 2), deed("plus", 0), does(0), does(1), does(2))
        # The foremost goes into the base, one between two guesses stays there.
        self.row((2, (("add", 2, 0), ("add", 0, 1))), program, comes(0), stand=begun)
        middle = self.row((1, (("add", 1, 0), ("add", 2, -1), ("add", 0, 1))), program, comes(1), stand=begun)
        self.row((1, (("add", 1, 0), ("add", 2, -1))), program, comes(1), stand=middle)
        self.row((0, (("add", 0, 0),)), program, comes(0), stand=middle)

    def test_refused_ones_go(self):
        program = self.saving()
        begun = behind(program, deed("plus", 1), deed("go", 3), deed("plus", 2), does(1))
        self.assertEqual(shown(program, begun), (1,))
        stand = self.row((1, (("add", 1, 0), ("add", 2, 1))), program, comes(1), stand=begun)
        self.assertEqual(shown(program, stand), (0,))

    def test_also_if_they_are_passed(self):
        program = self.saving("  answer save", "    set d 0", "  refused save", "    set d 0", lines=("  take save last",))
        self.row((2, (("add", 2, 0),)), program, deed("plus", 1), deed("plus", 2), does(0), comes(0))
        self.row((1, (("add", 2, 0),)), program, deed("plus", 3), deed("plus", 2), does(0), comes(0))

    def test_taken_back(self):
        program = self.saving("  answer load", "    off save", lines=("  send save latest",))
        self.row((1, (("set", 2, 0), ("add", 3, 1))), program, deed("go", 2), deed("plus", 1), deed("plus", 3))
        program = self.saving("  answer save", "    off save")
        stand = self.row((2, ()), program, deed("plus", 1), deed("plus", 2), deed("go", 3), does(0), comes(0))
        self.told((task(2, mark="off"), task(3, mark="off")), stand[3])

    def test_writes_stand_at_the_end(self):
        program = self.saving()
        self.row((2, ()), program, deed("write"))
        self.row((2, (("add", 2, 0), ("add", 2, -1))), program, deed("write"), deed("plus", 2), deed("write"), deed("write"))

    def test_two_cells_of_one_task(self):
        program = made("worths 4", "house", "  ask save", "    refuse", "screen", "  cell c 1", "  cell d 2", "  cell e 3",
                       "  show c", "  back c redone", "  back e redone", "  deed go", "    ask save 0 guess e = 0 guess c + 2",
                       "  deed mix", "    ask save 1 guess e + 1 guess d = 0")
        stand = behind(program, deed("go"), deed("mix"))
        self.told(((), ((1, (("add", 2, 0),)), 0, (3, (("set", 0, 0), ("add", 1, 1)))), (), (out(0), out(1, ("d", 2)))), stand)
        self.told(((), ((1, ()), 0, (3, (("add", 1, 0),))), (), (out(1, ("d", 2)),)), behind(program, does(0), comes(0), stand=stand))
        self.told(((), ((1, (("add", 2, 0),)), 2, (3, (("set", 0, 0),))), (), (out(0),)),
                  behind(program, does(1), comes(1), stand=stand))


class Places(Told):
    """n in entries follows as tasks come and go."""

    def saving(self, *lines):
        return made("worths 4", "house", "  ask save", "    answer it", "  ask load", "    answer it", "screen", "  cell c 0",
                    "  show c", *lines, "  back c redone", "  deed save upto 3", "    ask save it guess c + it",
                    "  deed load upto 3", "    ask load it guess c = it", "  deed stop", "    off save")

    def both(self, row, tasks, stand):
        self.told(row, stand[1][0])
        self.told(tasks, stand[3])

    def test_as_one_comes(self):
        program = self.saving()
        stand = behind(program, deed("save", 1), deed("load", 2), deed("save", 3), does(1), comes(1))
        self.both((0, (("add", 1, 0), ("set", 2, -1), ("add", 3, 1))), (out(1), out(3)), stand)

    def test_as_one_goes_out(self):
        program = self.saving("  send save resting", "  send load resting")
        stand = behind(program, deed("save", 1), deed("load", 2))
        self.both((0, (("add", 1, 0), ("set", 2, 1))), (task(1, "held"), task(2, "held", ask="load")), stand)
        stand = behind(program, sends(1), stand=stand)
        self.both((0, (("add", 1, 1), ("set", 2, 0))), (out(2, ask="load"), task(1, "held")), stand)
        stand = behind(program, sends(1), stand=stand)
        self.both((0, (("add", 1, 1), ("set", 2, 0))), (out(2, ask="load"), out(1)), stand)

    def test_as_one_goes_out_ahead_of_held_ones(self):
        program = self.saving("  send save resting")
        stand = behind(program, deed("save", 1), deed("load", 2), deed("load", 3))
        self.both((0, (("add", 1, 2), ("set", 2, 0), ("set", 3, 1))), (out(2, ask="load"), out(3, ask="load"), task(1, "held")), stand)

    def test_as_ones_are_off(self):
        program = self.saving()
        stand = behind(program, deed("save", 1), deed("load", 2), deed("save", 3), deed("load", 1), does(2), deed("stop"))
        self.both((0, (("set", 2, 1), ("set", 1, 2))), (task(1, mark="off"), out(2, ask="load"), out(1, ask="load")), stand)
        self.both((0, (("set", 2, 0), ("set", 1, 1))), (out(2, ask="load"), out(1, ask="load")), behind(program, gone(0), stand=stand))
        self.both((0, (("set", 2, 0), ("set", 1, 1))), (out(2, ask="load"), out(1, ask="load")), behind(program, does(0), stand=stand))

    def test_as_one_is_displaced(self):
        program = self.saving("  send save latest", "  send load latest")
        stand = behind(program, deed("save", 1), deed("load", 1), deed("save", 2), deed("load", 2), deed("save", 3))
        self.both((0, (("add", 1, 0), ("set", 1, 1), ("set", 2, 2), ("add", 3, 3))), (
            out(1), out(1, ask="load"), task(2, "held", ask="load"), task(3, "held")), stand)

    def test_of_a_passed_one(self):
        program = self.saving("  take save last")
        stand = behind(program, deed("save", 1), deed("save", 2), deed("load", 3), does(1), comes(1))
        self.both((0, (("add", 1, 0), ("add", 2, -1), ("set", 3, 1))), (task(1, mark="passed"), out(3, ask="load")), stand)


class OwnPlace(Told):
    """What a handler writes to a cell of which its own task had an entry."""

    def saving(self, *handlers, lines=("  back c redone",)):
        return made("worths 4", "house", "  ask save", "    if it = 3", "      refuse", "    answer it", "  ask load",
                    "    answer it", "screen", "  cell c 1", "  cell d 2", "  show c", *lines, "  deed save upto 3",
                    "    ask save it guess c + it", "  deed load upto 3", "    ask load it guess c + it",
                    "  deed bare upto 3", "    ask save it", *handlers)

    def row(self, wanted, handlers, *story, lines=("  back c redone",)):
        program = self.saving(*handlers, lines=lines)
        stand = behind(program, *story)
        self.told(wanted, stand[1][0])
        self.assertTrue(is_stand(program, stand))
        return stand

    def test_behind_it_if_it_became_sure(self):
        handlers = ("  answer save", "    add c 2")
        self.row((0, (("add", 3, 0),)), handlers, deed("save", 1), deed("load", 3), does(0), comes(0))
        self.row((1, (("add", 3, 0), ("add", 3, -1), ("add", 1, 1))), handlers, deed("load", 3), deed("save", 1),
                 deed("load", 1), does(1), comes(1))

    def test_a_set_there_leaves_later_guesses(self):
        handlers = ("  answer save", "    set c asked")
        stand = self.row((1, (("add", 3, 0), ("set", 2, -1), ("add", 1, 1))), handlers, deed("load", 3), deed("save", 2),
                         deed("load", 1), does(1), comes(1))
        self.assertEqual(shown(self.saving(*handlers), stand), (3,))

    def test_in_its_place_if_it_was_refused(self):
        handlers = ("  refused save", "    set c 0")
        self.row((0, (("add", 2, 0),)), handlers, deed("save", 3), deed("load", 2), does(0), comes(0))
        self.row((1, (("add", 1, 0), ("set", 0, -1), ("add", 2, 1))), handlers, deed("load", 1), deed("save", 3),
                 deed("load", 2), does(1), comes(1))

    def test_one_write_behind_the_other(self):
        for word, worth in (("answer", 2), ("refused", 3)):
            handlers = (f"  {word} save", "    add c 1", "    set c 2", "    add c 1")
            self.row((1, (("add", 1, 0), ("set", 3, -1), ("add", 2, 1))), handlers, deed("load", 1), deed("save", worth),
                     deed("load", 2), does(1), comes(1))
            handlers = (f"  {word} save", "    set c 2", "    if c = 0", "      add c 3")
            # c is 2, with 2 added by the guess behind: 0.
            self.row((1, (("add", 1, 0), ("set", 1, -1), ("add", 2, 1))), handlers, deed("load", 1), deed("save", worth),
                     deed("load", 2), does(1), comes(1))

    def test_without_an_own_entry_at_the_end(self):
        for word, worth in (("answer", 2), ("refused", 3)):
            handlers = (f"  {word} save", "    add c 3")
            self.row((1, (("add", 1, 0), ("add", 2, 1), ("add", 3, -1))), handlers, deed("load", 1), deed("bare", worth),
                     deed("load", 2), does(1), comes(1))

    def test_if_anew_took_its_entry_at_the_end(self):
        program = made("worths 4", "house", "  ask save", "    answer it", "  ask load", "screen", "  cell c 1", "  show c",
                       "  back c redone", "  deed go", "    ask save 1 guess c + 1", "  deed new", "    anew",
                       "    ask load 1 guess c + 2", "  answer save", "    add c 3")
        stand = behind(program, deed("go"), deed("new"), does(0), comes(0))
        self.told((1, (("add", 2, 0), ("add", 3, -1))), stand[1][0])

    def test_a_guess_of_its_asks_stands_at_the_end(self):
        handlers = ("  answer save", "    add c 1", "    ask load 0 guess c + 3", "    add c 1")
        stand = self.row((1, (("add", 1, 0), ("add", 3, -1), ("add", 2, 1), ("add", 3, 2))), handlers, deed("load", 1),
                         deed("save", 1), deed("load", 2), does(1), comes(1))
        self.told((out(1, ask="load"), out(2, ask="load"), out(0, ask="load")), stand[3])

    def test_a_sure_guess_of_its_asks_too(self):
        handlers = ("  answer save", "    ask load 0 guess c + 3", "    set c 0")
        stand = ((), ((1, (("add", 1, 0), ("add", 2, 1))), 2), (((0, 0),),), (
            ("save", 1, "answered", 1, "live", ()), out(2, ask="load")))
        program = self.saving(*handlers, lines=("  keep load only", "  back c redone"))
        self.assertTrue(is_stand(program, stand))
        self.told((0, (("add", 2, 0), ("add", 3, -1))), behind(program, comes(0), stand=stand)[1][0])

    def test_behind_an_anew_at_the_end(self):
        for word, worth in (("answer", 1), ("refused", 3)):
            handlers = (f"  {word} save", "    set c 0", "    anew", "    add c 1", "    ask load 0 guess c + 1", "    add c 2")
            stand = self.row((2, (("add", 1, 2), ("add", 2, -1))), handlers, deed("load", 1), deed("save", worth),
                             deed("load", 2), does(1), comes(1))
            self.told((out(1, ask="load"), out(2, ask="load"), out(0, ask="load")), stand[3])

    def test_as_guesses_ahead_of_it_go(self):
        for word, worth in (("answer", 2), ("refused", 3)):
            handlers = (f"  {word} save", "    off load", "    set c 0", "    add c asked")
            stand = self.row((worth, (("add", 1, 2),)), handlers, deed("load", 1), deed("load", 2), deed("save", worth),
                             deed("save", 1), does(2), comes(2))
            self.told((task(1, mark="off", ask="load"), task(2, mark="off", ask="load"), out(1)), stand[3])

    def test_only_of_that_cell(self):
        handlers = ("  answer save", "    add d 1", "    add c 1")
        lines = ("  back c redone", "  back d redone")
        program = made("worths 4", "house", "  ask save", "    answer it", "screen", "  cell c 1", "  cell d 2", "  show c", *lines,
                       "  deed one", "    ask save 0 guess c + 1", "  deed two", "    ask save 1 guess d + 1 guess c + 2", *handlers)
        stand = behind(program, deed("one"), deed("two"), does(0), comes(0))
        self.told(((3, (("add", 2, 0),)), (2, (("add", 1, 0), ("add", 1, -1)))), stand[1])

    def test_not_for_passed_ones(self):
        program = self.saving("  answer save", "    add c 3", lines=("  take save last", "  back c redone"))
        stand = behind(program, deed("save", 1), deed("save", 2), does(0), comes(0))
        self.told((2, (("add", 2, 0),)), stand[1][0])

    def test_the_handler_reads_the_whole_row(self):
        handlers = ("  answer save", "    set d c", "    set c 0", "    add d c")
        stand = self.row((0, (("add", 2, 0),)), handlers, deed("save", 1), deed("load", 2), does(0), comes(0))
        # 1 and 1 and 2, then 0 and 2.
        self.assertEqual(stand[1][1], 2)


class PutTogether(Told):
    """What the handler of load writes behind guesses, and what is put together of it."""

    def row(self, wanted, *rows, cell=1, begun=(("add", 1, 0),), worths=4):
        program = made(f"worths {worths}", "house", "  ask save", "  ask load", "screen", "  cell c 1", "  show c",
                       "  back c redone", "  deed go", *rows, "  deed save", "    ask save 0 guess c + 1")
        tasks = tuple(out(0) for entry in begun if entry[2] >= 0)
        stand = ((), ((cell, begun),), (), tasks)
        self.assertTrue(is_stand(program, stand))
        stand = behind(program, deed("go"), stand=stand)
        self.told(wanted, stand[1][0])
        self.assertTrue(is_stand(program, stand))

    def test_add_behind_add(self):
        self.row((1, (("add", 1, 0), ("add", 3, -1))), "    add c 1", "    add c 2")
        self.row((1, (("add", 1, 0), ("add", 1, -1))), "    add c 3", "    add c 2")
        self.row((1, (("add", 1, 0), ("add", 1, -1))), "    add c 2", "    add c 2", worths=3, begun=(("add", 1, 0),))

    def test_add_of_0_is_nothing(self):
        self.row((1, (("add", 1, 0),)), "    add c 0")
        self.row((1, (("add", 1, 0),)), "    add c 1", "    add c 3")
        self.row((1, (("add", 1, 0), ("add", 2, -1))), "    add c 0", "    add c 2", "    add c 0")
        self.row((1, (("add", 1, 0), ("add", 1, -1))), "    add c 1", "    add c 3", "    add c 1")

    def test_a_guess_of_0_stays(self):
        self.row((1, (("add", 0, 0), ("add", 2, -1))), "    add c 2", begun=(("add", 0, 0),))

    def test_add_behind_set(self):
        self.row((1, (("add", 1, 0), ("set", 0, -1))), "    set c 3", "    add c 1")
        self.row((1, (("add", 1, 0), ("set", 2, -1))), "    set c 2", "    add c 0")
        self.row((1, (("add", 1, 0), ("set", 0, -1))), "    set c 2", "    add c 2")

    def test_set_behind_anything(self):
        self.row((1, (("add", 1, 0), ("set", 2, -1))), "    add c 3", "    set c 2")
        self.row((1, (("add", 1, 0), ("set", 0, -1))), "    set c 3", "    set c 0")
        self.row((1, (("add", 1, 0), ("set", 0, -1))), "    set c 0")
        # Also one that sets what is there by then.
        self.row((1, (("add", 1, 0), ("set", 2, -1))), "    set c 2")

    def test_set_is_not_put_over_a_guess(self):
        self.row((1, (("set", 3, 0), ("set", 2, -1))), "    set c 2", begun=(("set", 3, 0),))

    def test_ahead_of_all_guesses_into_the_base(self):
        self.row((3, ()), "    add c 2", begun=())
        self.row((0, ()), "    set c 3", "    add c 1", begun=())
        self.row((2, ()), "    set c 2", begun=())
        self.row((1, ()), "    add c 0", begun=())

    def test_with_what_was_sure(self):
        begun = (("add", 1, 0), ("add", 2, -1), ("add", 1, 1), ("set", 2, -1))
        self.row((1, begun[:3] + (("set", 1, -1),)), "    add c 3", begun=begun)
        self.row((1, begun[:3] + (("set", 0, -1),)), "    set c 0", begun=begun)

    def test_neighbours_as_a_guess_goes(self):
        program = made("worths 4", "house", "  ask save", "  ask load", "    refuse", "screen", "  cell c 1", "  show c",
                       "  back c redone", "  deed go", "    off load", "  deed save", "    ask save 0 guess c + 1", "  deed load",
                       "    ask load 0 guess c + 1")
        load = ("load", 0, "out", 0, "live", ())
        for one, two, wanted in ((("add", 1), ("add", 2), (("add", 3, -1),)), (("add", 1), ("add", 3), ()),
                                 (("set", 1), ("add", 3), (("set", 0, -1),)), (("add", 1), ("set", 3), (("set", 3, -1),)),
                                 (("set", 1), ("set", 2), (("set", 2, -1),))):
            begun = (("add", 0, 0), (*one, -1), ("add", 2, 1), (*two, -1))
            stand = ((), ((1, begun),), (), (out(0), load))
            self.assertTrue(is_stand(program, stand))
            left = ((1, (("add", 0, 0),) + wanted),)
            self.told(((), left, (), (out(0), task(0, mark="off", ask="load"))), behind(program, deed("go"), stand=stand))
            self.told(((), left, (), (out(0),)), behind(program, does(1), comes(1), stand=stand))
            # As the foremost goes, what was behind it goes into the base.
            other = ((), ((1, (("add", 2, 1), (*one, -1))),), (), (out(0), load))
            base = 1 if one[0] == "set" else 2
            self.told((base, ()), behind(program, deed("go"), stand=other)[1][0])

    def test_answered_between_sure_ones(self):
        program = made("worths 4", "house", "  ask save", "screen", "  cell c 1", "  show c", "  back c redone", "  deed go",
                       "    ask save 0")
        begun = (("add", 0, 1), ("add", 1, -1), ("add", 2, 0), ("add", 3, -1))
        stand = ((), ((1, begun),), (), (task(0, "answered"), out(0)))
        self.assertTrue(is_stand(program, stand))
        self.told((1, (("add", 0, 0), ("add", 2, -1))), behind(program, comes(0), stand=stand)[1][0])

    def test_not_within_a_handler(self):
        # The write stands in the place of the own entry although that became sure.
        program = made("worths 4", "house", "  ask save", "    answer it", "screen", "  cell c 1", "  show c", "  back c redone",
                       "  deed go upto 3", "    ask save it guess c = it", "  answer save", "    add c 1", "    if c = 3",
                       "      add c 2")
        stand = behind(program, deed("go", 2), deed("go", 3), does(0), comes(0))
        self.told((1, (("set", 3, 0),)), stand[1][0])


if __name__ == "__main__":
    unittest.main()
