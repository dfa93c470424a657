"""Section 6: stored answers."""

import unittest

from lastasked.moves import moves
from lastasked.stands import is_stand
from tests.helper import behind, comes, deed, does, made, sends


def saving(*lines):
    """The house counts in n how often it did save, and answers this."""
    return made("worths 4", "house", "  cell n 0", "  ask save", "    if it = 3", "      refuse", "    add n 1", "    answer n",
                "  ask load", "    answer 2", "screen", "  cell c 0", "  cell d 0", "  cell e 0", "  show c", *lines,
                "  deed go upto 3", "    ask save it guess c = it", "  deed load", "    ask load 0",
                "  deed drop", "    forget save", "  answer save", "    set d it", "    set e asked")


def task(worth, phase, mark="live", had=None, ask="save", answer=0):
    return (ask, worth, phase, answer, mark, () if had is None else (("c", had),))


class Told(unittest.TestCase):
    def told(self, wanted, stand):
        self.assertEqual(repr(stand), repr(wanted))

    def begin(self, program, cells, store, *tasks):
        stand = ((0,), cells, (store,), tasks)
        self.assertTrue(is_stand(program, stand))
        return stand


class Storing(Told):
    def test_as_it_comes(self):
        for keep in ("only", "both"):
            program = saving(f"  keep save {keep}")
            stand = behind(program, deed("go", 2), does(0))
            self.assertEqual(stand[2], ((),))
            self.told(((1,), (2, 1, 2), (((2, 1),),), ()), behind(program, comes(0), stand=stand))

    def test_ascending_each_worth_once(self):
        program = saving("  keep save both")
        stand = behind(program, deed("go", 2), deed("go", 1), deed("go", 2), does(0), does(1), does(2))
        stand = behind(program, comes(0), stand=stand)
        self.assertEqual(stand[2], (((2, 1),),))
        stand = behind(program, comes(0), stand=stand)
        self.assertEqual(stand[2], (((1, 2), (2, 1)),))
        stand = behind(program, comes(0), stand=stand)
        self.assertEqual(stand[2], (((1, 2), (2, 3)),))
        # An elder answer that comes later takes the place, too.
        stand = behind(program, deed("go", 2), deed("go", 2), does(0), does(1), comes(1), comes(0), stand=stand)
        self.assertEqual(stand[2], (((1, 2), (2, 0)),))

    def test_refused_ones_store_nothing(self):
        program = saving("  keep save only")
        self.told(((0,), (0, 0, 0), ((),), ()), behind(program, deed("go", 3), does(0), comes(0)))

    def test_passed_ones_store_nothing(self):
        program = saving("  take save last", "  keep save only")
        stand = behind(program, deed("go", 1), deed("go", 2), does(0), comes(0))
        self.assertEqual(stand[2], ((),))
        stand = behind(program, does(0), comes(0), stand=stand)
        self.assertEqual(stand[2], (((2, 2),),))

    def test_none(self):
        program = saving()
        stand = behind(program, deed("go", 1), does(0), comes(0))
        self.told(((1,), (1, 1, 1), (), ()), stand)
        self.assertEqual(behind(program, deed("go", 1), stand=stand)[3], (task(1, "out", had=1),))

    def test_each_ask_its_own(self):
        program = saving("  keep save only", "  keep load both")
        stand = behind(program, deed("load"), does(0), comes(0))
        self.assertEqual(stand[2], ((), ((0, 2),)))
        stand = behind(program, deed("go", 0), stand=stand)
        self.assertEqual(stand[3], (task(0, "out", had=0),))
        program = saving("  keep load both")
        self.assertEqual(behind(program, deed("go", 0), deed("load"), does(1), comes(1), does(0), comes(0))[2], (((0, 2),),))

    def test_without_a_handler(self):
        program = saving("  keep load only")
        stand = behind(program, deed("load"), does(0), comes(0))
        self.told(((0,), (0, 0, 0), (((0, 2),),), ()), stand)
        self.told(stand, behind(program, deed("load"), stand=stand))

    def test_ahead_of_its_handler(self):
        # The handler forgets what has just been stored.
        program = made("worths 2", "house", "  ask save", "    answer 1", "screen", "  cell c 0", "  show c", "  keep save only",
                       "  deed go", "    ask save 0", "  answer save", "    forget save")
        self.told(((), (0,), ((),), ()), behind(program, deed("go"), does(0), comes(0)))


class Only(Told):
    def test_no_task_is_made(self):
        program = saving("  keep save only")
        stand = self.begin(program, (0, 0, 0), ((1, 3),))
        self.told(((0,), (1, 3, 1), (((1, 3),),), ()), behind(program, deed("go", 1), stand=stand))

    def test_for_another_worth(self):
        program = saving("  keep save only")
        stand = self.begin(program, (0, 0, 0), ((1, 3),))
        self.told(((0,), (2, 0, 0), (((1, 3),),), (task(2, "out", had=0),)), behind(program, deed("go", 2), stand=stand))

    def test_stored_0(self):
        program = saving("  keep save only")
        stand = self.begin(program, (3, 3, 3), ((0, 0),))
        self.told(((0,), (0, 0, 0), (((0, 0),),), ()), behind(program, deed("go", 0), stand=stand))

    def test_whatever_send_tells(self):
        for send, tasks in (("one", (task(2, "out", had=3),)), ("queued", (task(2, "out", had=3), task(0, "held", had=2))),
                            ("latest", (task(2, "out", had=3), task(0, "held", had=2))), ("resting", (task(0, "held", had=2),)),
                            ("latest", (task(0, "held", "passed", 2),)), ("queued", ()), ("latest", ()), ("resting", ())):
            program = saving(f"  send save {send}", "  keep save only")
            stand = self.begin(program, (0, 0, 0), ((1, 3),), *tasks)
            # A held one stays, with its guess.
            self.told(((0,), (1, 3, 1), (((1, 3),),), tasks), behind(program, deed("go", 1), stand=stand))

    def test_guesses_are_written_as_sure(self):
        program = made("worths 4", "house", "  ask save", "screen", "  cell c 3", "  cell d 1", "  cell e 2", "  show c",
                       "  keep save only", "  back d redone", "  back e redone", "  deed go upto 3",
                       "    ask save 0 guess c + 2 guess d + it", "  deed set", "    ask save 0 guess e = 1", "  deed other",
                       "    ask save 1 guess d + 1 guess e + 1")
        stand = self.begin_rows(program)
        self.assertEqual(behind(program, deed("go", 2), stand=stand)[1], (1, (3, ()), (2, ())))
        self.assertEqual(behind(program, deed("set"), stand=stand)[1], (3, (1, ()), (1, ())))
        # Behind a guess it stands at the end of the row.
        other = behind(program, deed("other"), stand=stand)
        self.assertEqual(other[1], (3, (1, (("add", 1, 0),)), (2, (("add", 1, 0),))))
        one = behind(program, deed("go", 2), deed("set"), stand=other)
        self.assertEqual(one[1], (1, (1, (("add", 1, 0), ("add", 2, -1))), (2, (("add", 1, 0), ("set", 1, -1)))))
        self.assertEqual(behind(program, deed("go", 2), stand=one)[1][1], (1, (("add", 1, 0),)))
        self.assertEqual(behind(program, deed("go", 0), stand=other)[1][1], (1, (("add", 1, 0),)))

    def begin_rows(self, program):
        stand = ((), (3, (1, ()), (2, ())), (((0, 0),),), ())
        self.assertTrue(is_stand(program, stand))
        return stand

    def test_last_passes_all_there(self):
        program = saving("  take save last", "  send save queued", "  keep save only")
        stand = self.begin(program, (0, 0, 0), ((1, 3),), task(0, "out", "off"), task(2, "out"),
                           task(0, "answered", ask="load"), task(0, "held"))
        self.assertEqual(behind(program, deed("go", 1), stand=stand)[3], (
            task(0, "out", "off"), task(2, "out", "passed"), task(0, "answered", ask="load"), task(0, "held", "passed")))

    def test_rising_passes_all_there(self):
        program = saving("  take save rising", "  send save queued", "  keep save only")
        stand = self.begin(program, (0, 0, 0), ((1, 3),), task(0, "out", "off"), task(2, "refused"), task(2, "out"),
                           task(0, "out", ask="load"), task(0, "held"))
        self.assertEqual(behind(program, deed("go", 1), stand=stand)[3], (
            task(0, "out", "off"), task(2, "refused", "passed"), task(2, "out", "passed"), task(0, "out", ask="load"),
            task(0, "held", "passed")))

    def test_any_passes_none(self):
        program = saving("  send save queued", "  keep save only")
        tasks = (task(2, "out"), task(0, "held"))
        stand = self.begin(program, (0, 0, 0), ((1, 3),), *tasks)
        self.assertEqual(behind(program, deed("go", 1), stand=stand)[3], tasks)

    def test_makes_no_more_tasks(self):
        program = saving("  keep save only")
        stand = self.begin(program, (0, 0, 0), ((1, 3),), task(2, "out"))
        self.assertEqual([move for move in moves(program, stand, 1) if move[0] == "deed"], [deed("drop"), deed("go", 1)])


class Both(Told):
    def test_one_is_made_too(self):
        program = saving("  keep save both")
        stand = self.begin(program, (0, 0, 0), ((1, 3),))
        self.told(((0,), (1, 3, 1), (((1, 3),),), (task(1, "out", had=0),)), behind(program, deed("go", 1), stand=stand))

    def test_its_own_answer_comes_later(self):
        program = saving("  keep save both")
        stand = self.begin(program, (0, 0, 0), ((1, 3),))
        self.told(((1,), (1, 1, 1), (((1, 1),),), ()), behind(program, deed("go", 1), does(0), comes(0), stand=stand))

    def test_with_one_there_none_is_made(self):
        program = saving("  send save one", "  keep save both")
        stand = self.begin(program, (0, 0, 0), ((1, 3),), task(2, "out"))
        # Its handler is done nevertheless, but no guess is made.
        self.told(((0,), (0, 3, 1), (((1, 3),),), (task(2, "out"),)), behind(program, deed("go", 1), stand=stand))
        for take in ("last", "rising"):
            program = saving(f"  take save {take}", "  send save one", "  keep save both")
            self.told(((0,), (0, 3, 1), (((1, 3),),), (task(2, "out", "passed"),)), behind(program, deed("go", 1), stand=stand))

    def test_with_each_send(self):
        for send, wanted in (("many", (task(2, "out", had=1), task(1, "out", had=2))), ("one", (task(2, "out", had=1),)),
                             ("queued", (task(2, "out", had=1), task(1, "held", had=2))),
                             ("latest", (task(2, "out", had=1), task(1, "held", had=2))),
                             ("resting", (task(2, "out", had=1), task(1, "held", had=2)))):
            program = saving(*[f"  send save {send}"] * (send != "many"), "  keep save both")
            stand = self.begin(program, (2, 0, 0), ((1, 3),), task(2, "out", had=1))
            stand = behind(program, deed("go", 1), stand=stand)
            self.told(((0,), (2 if send == "one" else 1, 3, 1), (((1, 3),),), wanted), stand)

    def test_a_held_one_is_displaced(self):
        for send in ("latest", "resting"):
            program = saving(f"  send save {send}", "  keep save both")
            stand = self.begin(program, (2, 0, 0), ((1, 3),), task(2, "held", had=0))
            self.told(((0,), (1, 3, 1), (((1, 3),),), (task(1, "held", had=0),)), behind(program, deed("go", 1), stand=stand))

    def test_last_and_rising_pass_those_that_were_there_by_then(self):
        for take in ("last", "rising"):
            program = saving(f"  take save {take}", "  send save queued", "  keep save both")
            stand = self.begin(program, (0, 0, 0), ((1, 3),), task(0, "out", "off"), task(2, "out"), task(0, "held"))
            self.assertEqual(behind(program, deed("go", 1), stand=stand)[3], (
                task(0, "out", "off"), task(2, "out", "passed"), task(0, "held", "passed"), task(1, "held", had=0)))

    def test_rising_with_nothing_stored_passes_none(self):
        program = saving("  take save rising", "  keep save both")
        stand = self.begin(program, (0, 0, 0), ((1, 3),), task(0, "out"))
        self.assertEqual(behind(program, deed("go", 2), stand=stand)[3], (task(0, "out"), task(2, "out", had=0)))

    def test_passed_by_the_second_of_a_deed(self):
        # The first is stored and made; the second, stored too, passes what the first made.
        program = made("worths 4", "house", "  ask save", "screen", "  cell c 0", "  show c", "  take save rising",
                       "  keep save both", "  deed go", "    ask save 1", "    ask save 2", "  answer save", "    add c it")
        stand = ((), (0,), (((1, 1), (2, 2)),), ())
        self.told(((), (3,), (((1, 1), (2, 2)),), (task(1, "out", "passed"), task(2, "out"))),
                  behind(program, deed("go"), stand=stand))


class Handlers(Told):
    """Handlers of stored answers, behind the one that asked, in sequence."""

    def trace(self, *deeds):
        """prev and last tell which handlers were done last: save 1, load 2, find 3."""
        return made("worths 4", "house", "  ask save", "  ask load", "  ask find", "screen", "  cell prev 0", "  cell last 0",
                    "  show last", "  keep save only", "  keep load only", "  keep find only", *deeds,
                    "  answer save", "    set prev last", "    set last 1", "    ask find 0",
                    "  answer load", "    set prev last", "    set last 2",
                    "  answer find", "    set prev last", "    set last 3")

    def test_behind_the_handler_that_asked(self):
        program = saving("  keep save only")
        program = made(*program.text.replace("    ask save it guess c = it", "    ask save it\n    set d 0\n    set e c").split("\n"))
        stand = self.begin(program, (2, 0, 0), ((1, 3),))
        self.told(((0,), (2, 3, 1), (((1, 3),),), ()), behind(program, deed("go", 1), stand=stand))

    def test_of_several_in_sequence(self):
        program = self.trace("  deed go", "    ask load 0", "    ask find 0", "    set last 0")
        stores = (((0, 0),), ((0, 0),), ((0, 0),))
        self.told(((), (2, 3), stores, ()), behind(program, deed("go"), stand=((), (1, 1), stores, ())))

    def test_asks_of_such_handlers_behind_them(self):
        # save, load, then what save asked: find.
        program = self.trace("  deed go", "    ask save 0", "    ask load 0")
        stores = (((0, 0),), ((0, 0),), ((0, 0),))
        self.told(((), (2, 3), stores, ()), behind(program, deed("go"), stand=((), (0, 0), stores, ())))

    def test_an_ask_that_such_a_handler_makes(self):
        program = self.trace("  deed go", "    ask save 0", "    ask load 0")
        stores = (((0, 0),), ((0, 0),), ())
        self.told(((), (1, 2), stores, (("find", 0, "out", 0, "live", ()),)),
                  behind(program, deed("go"), stand=((), (0, 0), stores, ())))
        # It counts where tasks behind a deed are counted.
        full = ((), (0, 0), stores, tuple(("find", 0, "out", 0, "live", ()) for _ in range(2)))
        self.assertNotIn(deed("go"), moves(program, full, 2))
        self.assertIn(deed("go"), moves(program, full, 3))

    def test_behind_a_handler_of_an_answer(self):
        program = self.trace("  deed go", "    ask save 1")
        stand = behind(program, deed("go"), does(0), stand=((), (0, 0), ((), (), ((0, 0),)), ()))
        self.told(((), (1, 3), (((1, 0),), (), ((0, 0),)), ()), behind(program, comes(0), stand=stand))

    def test_it_is_as_it_was_stored_when_asked(self):
        program = made("worths 4", "house", "  ask save", "  ask load", "screen", "  cell c 0", "  cell d 0", "  show c",
                       "  keep save only", "  deed go", "    ask save 1", "    forget save", "    off save", "    anew",
                       "  answer save", "    add c it", "    add d asked")
        stand = ((), (2, 2), (((1, 3),),), (("save", 2, "out", 0, "live", ()),))
        self.told(((), (3, 1), ((),), (("save", 2, "out", 0, "off", ()),)), behind(program, deed("go"), stand=stand))

    def test_asked_is_e(self):
        program = saving("  keep save only")
        stand = self.begin(program, (0, 0, 0), ((0, 3), (1, 2), (2, 1)))
        for worth, answer in ((0, 3), (1, 2), (2, 1)):
            self.assertEqual(behind(program, deed("go", worth), stand=stand)[1], (worth, answer, worth))

    def test_no_handler_but_of_the_answer(self):
        program = made("worths 4", "house", "  ask save", "screen", "  cell c 0", "  show c", "  keep save only", "  deed go",
                       "    ask save 1", "  refused save", "    set c 3")
        stand = ((), (0,), (((1, 3),),), ())
        self.told(stand, behind(program, deed("go"), stand=stand))

    def test_it_reads_what_the_deed_wrote(self):
        program = made("worths 4", "house", "  ask save", "screen", "  cell c 0", "  show c", "  keep save both", "  deed go",
                       "    ask save 1 guess c = 1", "    add c 1", "  answer save", "    add c c")
        self.told(((), (0,), (((1, 3),),), (("save", 1, "out", 0, "live", (("c", 0),)),)),
                  behind(program, deed("go"), stand=((), (0,), (((1, 3),),), ())))


class Forget(Told):
    def test_empties_what_is_stored(self):
        program = saving("  keep save only", "  keep load only")
        stand = ((0,), (0, 0, 0), (((0, 1), (1, 3)), ((0, 2),)), (task(2, "out"),))
        self.told(((0,), (0, 0, 0), ((), ((0, 2),)), (task(2, "out"),)), behind(program, deed("drop"), stand=stand))

    def test_an_answer_that_comes_later_is_stored_again(self):
        program = saving("  keep save only")
        stand = behind(program, deed("go", 1), does(0), deed("drop"), comes(0))
        self.assertEqual(stand[2], (((1, 1),),))
        stand = behind(program, deed("drop"), deed("go", 1), stand=stand)
        self.assertEqual(stand[2:], (((),), (task(1, "out", had=1),)))

    def test_of_what_is_not_kept(self):
        program = saving()
        stand = behind(program, deed("go", 1))
        self.told(stand, behind(program, deed("drop"), stand=stand))

    def test_ahead_of_an_ask(self):
        program = made("worths 4", "house", "  ask save", "screen", "  cell c 0", "  show c", "  keep save only", "  deed go",
                       "    forget save", "    ask save 1", "  answer save", "    set c it")
        self.told(((), (0,), ((),), (("save", 1, "out", 0, "live", ()),)),
                  behind(program, deed("go"), stand=((), (0,), (((1, 3),),), ())))


class Rows(Told):
    """What handlers of stored answers, and asks with only, write to redone cells."""

    PROGRAM = ("worths 4", "house", "  ask save", "    answer it", "  ask load", "    answer it", "screen", "  cell c 0",
               "  show c", "  keep load only", "  back c redone", "  deed go upto 3", "    ask save it guess c + it",
               "  deed see", "    ask load 1")

    def test_no_own_place(self):
        # load's handler is done with the stored 1: its write stands at the end of the row.
        program = made(*self.PROGRAM, "  answer load", "    add c 3")
        stand = behind(program, deed("go", 1), deed("go", 2), stand=((), ((0, ()),), (((1, 1),),), ()))
        stand = behind(program, deed("see"), stand=stand)
        self.assertEqual(stand[1], ((0, (("add", 1, 0), ("add", 2, 1), ("add", 3, -1))),))

    def test_behind_an_answer_no_own_place_either(self):
        # save's handler writes in the place of its guess; the stored handler behind it, and the sure guess, at the end.
        program = made(*self.PROGRAM, "  answer save", "    set c 1", "    ask load 1 guess c = 2", "    add c 1",
                       "  answer load", "    add c 3")
        stand = behind(program, deed("go", 1), deed("go", 2), does(0), comes(0), stand=((), ((0, ()),), (((1, 1),),), ()))
        self.assertEqual(stand[1:], (((2, (("add", 2, 0), ("set", 1, -1))),), (((1, 1),),), (
            ("save", 2, "out", 0, "live", ()),)))

    def test_held(self):
        program = saving("  send save resting", "  keep save only", "  back c redone")
        stand = ((0,), ((0, (("set", 2, 0),)), 0, 0), (((1, 3),),), (task(2, "held"),))
        self.assertTrue(is_stand(program, stand))
        stand = behind(program, deed("go", 1), stand=stand)
        self.told(((0,), ((0, (("set", 2, 0), ("set", 1, -1))), 3, 1), (((1, 3),),), (task(2, "held"),)), stand)
        self.told((task(2, "out"),), behind(program, sends(0), stand=stand)[3])


if __name__ == "__main__":
    unittest.main()
