"""Section 6: asking with each word of send and take, in order, and calling off."""

import itertools
import unittest

from lastasked.errors import NoMove
from lastasked.moves import after, moves
from lastasked.stands import is_stand
from tests.helper import behind, comes, deed, does, gone, made, sends


def saving(*lines, house=()):
    """Deeds go, load and stop; it is guessed in c by go."""
    return made("worths 4", "house", *house, "  cell n 0", "  ask save", "    if it = 3", "      set n 3", "      refuse",
                "    set n it", "    answer it", "  ask load", "    answer it",
                "screen", "  cell c 0", "  cell d 0", "  show c", *lines,
                "  deed go upto 3", "    ask save it guess c = it", "  deed load upto 3", "    ask load it",
                "  deed stop", "    off save", "  answer save", "    set d it", "  refused save", "    set d 3")


def task(worth, phase, mark="live", had=None, ask="save", answer=0):
    return (ask, worth, phase, answer, mark, () if had is None else (("c", had),))


def answered(worth, mark="live", had=None, ask="save"):
    return task(worth, "answered", mark, had, ask, worth)


class Told(unittest.TestCase):
    def tasks(self, wanted, stand):
        self.assertEqual(repr(stand[3]), repr(tuple(wanted)))

    def begin(self, program, *tasks, c=0):
        """A stand with these tasks."""
        stand = ((0,), (c, 0), (), tasks)
        self.assertTrue(is_stand(program, stand))
        return stand


class Many(Told):
    def test_each_goes_out(self):
        program = saving()
        stand = behind(program, deed("go", 2), deed("go", 1), deed("go", 3))
        self.assertEqual(stand, ((0,), (3, 0), (), (
            task(2, "out", had=0), task(1, "out", had=2), task(3, "out", had=1))))

    def test_in_whatever_sequence_they_are_done_and_come(self):
        program = saving()
        out = behind(program, deed("go", 2), deed("go", 1), deed("go", 0))
        stand = behind(program, does(1), does(2), does(0), stand=out)
        self.tasks([answered(2, had=0), answered(1, had=2), answered(0, had=1)], stand)
        self.assertEqual(stand[0], (2,))
        for way in itertools.permutations(range(3)):
            left, now = [0, 1, 2], stand
            for n in way:
                now = after(program, now, comes(left.index(n)))
                left.remove(n)
                self.assertEqual(now[1], (0, (2, 1, 0)[n]))
            self.tasks([], now)

    def test_ahead_of_held_ones(self):
        program = saving("  send load resting")
        stand = behind(program, deed("load", 1), deed("go", 1), deed("go", 2))
        self.tasks([task(1, "out", had=0), task(2, "out", had=1), task(1, "held", ask="load")], stand)

    def test_behind_answered_ones(self):
        program = saving()
        stand = behind(program, deed("go", 1), does(0), deed("go", 2))
        self.tasks([answered(1, had=0), task(2, "out", had=1)], stand)


class One(Told):
    def test_nothing_is_made_if_one_is_there(self):
        program = saving("  send save one")
        one = behind(program, deed("go", 1))
        self.assertEqual(behind(program, deed("go", 2), stand=one), one)
        done = behind(program, does(0), stand=one)
        self.assertEqual(behind(program, deed("go", 2), stand=done), done)
        refused = behind(program, deed("go", 3), does(0))
        self.assertEqual(behind(program, deed("go", 2), stand=refused), refused)
        self.tasks([task(2, "out", had=1)], behind(program, comes(0), deed("go", 2), stand=done))

    def test_others_do_not_matter(self):
        program = saving("  send save one")
        stand = behind(program, deed("load", 1), deed("go", 2))
        self.tasks([task(1, "out", ask="load"), task(2, "out", had=0)], stand)

    def test_an_off_one_is_not_there(self):
        program = saving("  send save one")
        stand = behind(program, deed("go", 1), deed("stop"), deed("go", 2), deed("go", 3))
        self.tasks([task(1, "out", "off"), task(2, "out", had=0)], stand)

    def test_a_passed_one_is_there(self):
        program = saving("  send save one")
        for one in (task(1, "out", "passed"), answered(1, "passed"), task(1, "refused", "passed")):
            stand = self.begin(program, one)
            self.assertEqual(behind(program, deed("go", 2), stand=stand), stand)

    def test_rest_of_the_handler_is_done(self):
        program = made("worths 4", "house", "  ask save", "screen", "  cell c 0", "  show c", "  send save one", "  deed go",
                       "    ask save 1 guess c = 1", "    ask save 2 guess c = 2", "    add c 2")
        self.assertEqual(behind(program, deed("go")), ((), (3,), (), (task(1, "out", had=0),)))

    def test_last_passes_none_if_nothing_is_made(self):
        program = saving("  take save last", "  send save one")
        one = behind(program, deed("go", 1))
        self.assertEqual(behind(program, deed("go", 2), stand=one), one)


class Queued(Told):
    def test_held_if_one_is_there(self):
        program = saving("  send save queued")
        stand = behind(program, deed("go", 1), deed("go", 2), deed("go", 3))
        self.assertEqual(stand, ((0,), (3, 0), (), (
            task(1, "out", had=0), task(2, "held", had=1), task(3, "held", had=2))))
        stand = behind(program, does(0), deed("go", 0), stand=stand)
        self.tasks([answered(1, had=0), task(2, "held", had=1), task(3, "held", had=2), task(0, "held", had=3)], stand)

    def test_out_if_none_is_there(self):
        program = saving("  send save queued")
        self.tasks([task(1, "out", "off"), task(2, "out", had=0)], behind(program, deed("go", 1), deed("stop"), deed("go", 2)))
        self.tasks([task(1, "out", ask="load"), task(2, "out", had=0)], behind(program, deed("load", 1), deed("go", 2)))

    def test_held_if_a_passed_one_is_there(self):
        program = saving("  send save queued")
        for one in (task(1, "out", "passed"), answered(1, "passed"), task(1, "refused", "passed")):
            stand = behind(program, deed("go", 2), stand=self.begin(program, one))
            self.tasks([one, task(2, "held", had=0)], stand)

    def test_held_if_just_a_held_one_is_there(self):
        program = saving("  send save queued")
        stand = behind(program, deed("go", 1), deed("go", 2), does(0), comes(0), deed("go", 3))
        self.tasks([task(2, "held", had=1), task(3, "held", had=2)], stand)

    def test_the_first_goes_out_alone(self):
        program = saving("  send save queued")
        stand = behind(program, deed("go", 1), deed("go", 2), deed("go", 0))
        # stop leaves one task, as the held ones are gone by it.
        self.assertEqual(moves(program, stand, 1), (deed("stop"), does(0)))
        stand = behind(program, does(0), stand=stand)
        self.assertEqual(moves(program, stand, 1), (comes(0), deed("stop")))
        stand = behind(program, comes(0), stand=stand)
        self.assertEqual(moves(program, stand, 1), (deed("stop"), sends(0)))
        stand = behind(program, sends(0), stand=stand)
        self.tasks([task(2, "out", had=1), task(0, "held", had=2)], stand)
        self.assertEqual(moves(program, stand, 2), (deed("stop"), does(0)))

    def test_a_passed_one_hinders(self):
        for send in ("queued", "latest"):
            program = saving(f"  send save {send}")
            for one in (task(1, "out", "passed"), answered(1, "passed"), task(1, "refused", "passed")):
                stand = self.begin(program, one, task(2, "held"))
                self.assertNotIn(sends(1), moves(program, stand, 4))
                with self.assertRaises(NoMove):
                    after(program, stand, sends(1))

    def test_an_off_one_does_not_hinder(self):
        for send in ("queued", "latest"):
            program = saving(f"  send save {send}")
            stand = self.begin(program, task(1, "out", "off"), task(2, "out", ask="load"), task(3, "held"))
            self.assertIn(sends(2), moves(program, stand, 4))
            self.tasks([task(1, "out", "off"), task(2, "out", ask="load"), task(3, "out")],
                       behind(program, sends(2), stand=stand))

    def test_a_passed_held_one_goes_out_too(self):
        for send in ("queued", "latest", "resting"):
            program = saving(f"  send save {send}")
            stand = self.begin(program, task(2, "held", "passed"))
            self.tasks([task(2, "out", "passed")], behind(program, sends(0), stand=stand))

    def test_held_ones_of_others_do_not_matter(self):
        program = saving("  send save queued", "  send load queued")
        stand = self.begin(program, task(1, "held", ask="load"), task(2, "held"), task(3, "held", ask="load"), task(0, "held"))
        self.assertEqual([move for move in moves(program, stand, 4) if move[0] == "sends"], [sends(0), sends(1)])
        self.tasks([task(2, "out"), task(1, "held", ask="load"), task(3, "held", ask="load"), task(0, "held")],
                   behind(program, sends(1), stand=stand))


class Latest(Told):
    def test_the_held_one_is_displaced(self):
        program = saving("  send save latest")
        stand = behind(program, deed("go", 1), deed("go", 2))
        self.assertEqual(stand, ((0,), (2, 0), (), (task(1, "out", had=0), task(2, "held", had=1))))
        stand = behind(program, deed("go", 3), stand=stand)
        self.assertEqual(stand, ((0,), (3, 0), (), (task(1, "out", had=0), task(3, "held", had=1))))

    def test_its_guesses_are_taken_back_first(self):
        program = made("worths 4", "house", "  ask save", "screen", "  cell c 0", "  cell d 3", "  show c", "  send save latest",
                       "  deed plus upto 3", "    ask save it guess c + it", "  deed other", "    ask save 0 guess d = 1")
        stand = behind(program, deed("plus", 1), deed("plus", 2), deed("plus", 3))
        self.assertEqual(stand[1:], ((0, 3), (), (task(1, "out", had=0), task(3, "held", had=1))))
        # It guesses another cell: what the displaced one wrote is gone all the same.
        stand = behind(program, deed("other"), stand=stand)
        self.assertEqual(stand[1:], ((1, 1), (), (
            task(1, "out", had=0), ("save", 0, "held", 0, "live", (("d", 3),)))))

    def test_also_if_just_a_held_one_is_there(self):
        program = saving("  send save latest")
        stand = behind(program, deed("go", 1), deed("go", 2), does(0), comes(0))
        self.tasks([task(2, "held", had=1)], stand)
        stand = behind(program, deed("go", 3), stand=stand)
        self.tasks([task(3, "held", had=1)], stand)

    def test_out_if_none_is_there(self):
        program = saving("  send save latest")
        self.tasks([task(1, "out", "off"), task(2, "out", had=0)], behind(program, deed("go", 1), deed("stop"), deed("go", 2)))

    def test_a_passed_one_is_there(self):
        program = saving("  send save latest")
        for one in (task(1, "out", "passed"), answered(1, "passed"), task(1, "refused", "passed")):
            self.tasks([one, task(2, "held", had=0)], behind(program, deed("go", 2), stand=self.begin(program, one)))

    def test_a_passed_held_one_is_displaced(self):
        program = saving("  send save latest")
        stand = behind(program, deed("go", 2), stand=self.begin(program, task(1, "held", "passed", had=3)))
        self.assertEqual(stand[1:], ((2, 0), (), (task(2, "held", had=3),)))

    def test_goes_out(self):
        program = saving("  send save latest")
        stand = behind(program, deed("go", 1), deed("go", 2))
        self.assertNotIn(sends(1), moves(program, stand, 4))
        stand = behind(program, does(0), stand=stand)
        self.assertNotIn(sends(1), moves(program, stand, 4))
        stand = behind(program, comes(0), stand=stand)
        self.tasks([task(2, "out", had=1)], behind(program, sends(0), stand=stand))


class Resting(Told):
    def test_held_at_any_rate(self):
        program = saving("  send save resting")
        stand = behind(program, deed("go", 1))
        self.assertEqual(stand[1:], ((1, 0), (), (task(1, "held", had=0),)))
        stand = behind(program, deed("go", 2), stand=stand)
        self.assertEqual(stand[1:], ((2, 0), (), (task(2, "held", had=0),)))

    def test_goes_out_at_any_moment(self):
        program = saving("  send save resting")
        stand = behind(program, deed("go", 1), sends(0), deed("go", 2))
        self.tasks([task(1, "out", had=0), task(2, "held", had=1)], stand)
        stand = behind(program, deed("go", 3), sends(1), stand=stand)
        self.tasks([task(1, "out", had=0), task(3, "out", had=1)], stand)
        stand = behind(program, deed("go", 0), does(0), sends(2), stand=stand)
        self.tasks([answered(1, had=0), task(3, "out", had=1), task(0, "out", had=3)], stand)

    def test_a_passed_held_one_is_displaced(self):
        program = saving("  send save resting")
        stand = behind(program, deed("go", 2), stand=self.begin(program, task(1, "out"), task(1, "held", "passed", had=3)))
        self.assertEqual(stand[1:], ((2, 0), (), (task(1, "out"), task(2, "held", had=3))))

    def test_only_of_its_own_ask(self):
        program = saving("  send save resting", "  send load resting")
        stand = behind(program, deed("load", 1), deed("go", 1), deed("go", 2))
        self.tasks([task(1, "held", ask="load"), task(2, "held", had=0)], stand)
        stand = behind(program, deed("load", 2), sends(0), stand=stand)
        self.tasks([task(2, "out", had=0), task(2, "held", ask="load")], stand)


class Last(Told):
    def test_all_other_ones_are_passed(self):
        program = saving("  take save last")
        stand = behind(program, deed("go", 1), deed("go", 3), deed("load", 1), does(0), does(1), deed("go", 2))
        self.tasks([answered(1, "passed", 0), task(3, "refused", "passed", 1), task(1, "out", ask="load"),
                    task(2, "out", had=3)], stand)

    def test_off_ones_stay_off(self):
        program = saving("  take save last")
        stand = behind(program, deed("go", 1), deed("stop"), deed("go", 2), deed("go", 3))
        self.tasks([task(1, "out", "off"), task(2, "out", "passed", 0), task(3, "out", had=2)], stand)

    def test_held_ones(self):
        program = saving("  take save last", "  send save queued")
        stand = behind(program, deed("go", 1), deed("go", 2), deed("go", 3))
        self.tasks([task(1, "out", "passed", 0), task(2, "held", "passed", 1), task(3, "held", had=2)], stand)
        program = saving("  take save last", "  send save latest")
        stand = behind(program, deed("go", 1), deed("go", 2), deed("go", 3))
        self.tasks([task(1, "out", "passed", 0), task(3, "held", had=1)], stand)
        program = saving("  take save last", "  send save resting")
        stand = behind(program, deed("go", 1), sends(0), deed("go", 2), deed("go", 3))
        self.tasks([task(1, "out", "passed", 0), task(3, "held", had=1)], stand)

    def test_nothing_else_passes(self):
        program = saving("  take save last", "  send save queued")
        stand = behind(program, deed("go", 1), deed("load", 2), does(0), does(1), comes(0), comes(0))
        self.assertEqual(stand, ((1,), (1, 1), (), ()))
        stand = behind(program, deed("go", 1), deed("load", 2), deed("load", 3), does(0))
        self.tasks([answered(1, had=0), task(2, "out", ask="load"), task(3, "out", ask="load")], stand)

    def test_in_one_deed(self):
        program = made("worths 4", "house", "  ask save", "screen", "  cell c 0", "  show c", "  take save last", "  deed go",
                       "    ask save 1", "    ask save 2")
        self.tasks([task(1, "out", "passed"), task(2, "out")], behind(program, deed("go")))

    def test_any(self):
        program = saving()
        stand = behind(program, deed("go", 1), deed("go", 2), does(1), comes(1))
        self.tasks([task(1, "out", had=0)], stand)

    def test_passed_ones_settle_and_store_nothing(self):
        program = saving("  take save last", "  keep save both")
        stand = behind(program, deed("go", 1), deed("go", 2), does(0), comes(0))
        self.assertEqual(stand, ((1,), (2, 0), ((),), (task(2, "out", had=1),)))
        # Of a passed one that is refused the guess is taken back, without its handler.
        stand = behind(program, deed("go", 3), deed("go", 2), does(0), comes(0))
        self.assertEqual(stand, ((3,), (0, 0), ((),), (task(2, "out", had=3),)))


class Rising(Told):
    def test_those_ahead_of_it_are_passed(self):
        program = saving("  take save rising")
        stand = behind(program, deed("go", 0), deed("go", 1), deed("go", 2), does(1), comes(1))
        self.tasks([task(0, "out", "passed", 0), task(2, "out", had=1)], stand)
        self.assertEqual(stand[1], (2, 1))
        # The passed one comes for nothing, that behind it comes as ever.
        self.assertEqual(behind(program, does(0), comes(0), stand=stand)[1], (2, 1))
        self.assertEqual(behind(program, does(1), comes(1), stand=stand)[1], (2, 2))

    def test_answered_and_refused_ones_too_but_no_off_ones_and_no_others(self):
        program = saving("  take save rising")
        stand = self.begin(program, task(1, "out", "off"), answered(1), task(3, "refused"), task(0, "out", ask="load"),
                           answered(2), task(1, "out"))
        self.tasks([task(1, "out", "off"), answered(1, "passed"), task(3, "refused", "passed"), task(0, "out", ask="load"),
                    task(1, "out")], behind(program, comes(4), stand=stand))

    def test_nothing_is_passed_as_a_task_is_made_or_done(self):
        program = saving("  take save rising")
        stand = behind(program, deed("go", 1), deed("go", 2), does(1))
        self.tasks([task(1, "out", had=0), answered(2, had=1)], stand)

    def test_a_refused_one_passes_none(self):
        program = saving("  take save rising")
        stand = behind(program, deed("go", 1), deed("go", 3), does(1), comes(1))
        self.tasks([task(1, "out", had=0)], stand)
        self.assertEqual(stand[1], (1, 3))

    def test_a_passed_one_passes_none(self):
        program = saving("  take save rising")
        stand = self.begin(program, task(1, "out"), answered(2, "passed"), task(3, "out"))
        self.tasks([task(1, "out"), task(3, "out")], behind(program, comes(1), stand=stand))

    def test_its_handler_can_call_those_off_that_it_passed(self):
        program = made("worths 4", "house", "  ask save", "    answer it", "  ask load", "screen", "  cell c 0", "  show c",
                       "  take save rising", "  deed go upto 3", "    ask save it", "  answer save", "    off save")
        stand = behind(program, deed("go", 1), deed("go", 2), does(1), comes(1))
        self.tasks([task(1, "out", "off")], stand)

    def test_by_places(self):
        program = saving("  take save rising", "  send save resting", "  send load resting")
        stand = behind(program, deed("go", 1), deed("load", 1), sends(1), sends(1), deed("go", 2), does(1), comes(1))
        self.tasks([task(1, "out", ask="load"), task(2, "held", had=1)], stand)


class InOrder(Told):
    def test_only_the_first_that_is_out(self):
        program = saving(house=("  in order",))
        stand = behind(program, deed("go", 1), deed("load", 2), deed("go", 3))
        self.assertEqual([move for move in moves(program, stand, 4) if move[0] == "does"], [does(0)])
        stand = behind(program, does(0), stand=stand)
        self.assertEqual([move for move in moves(program, stand, 4) if move[0] != "deed"], [comes(0), does(1)])
        for n in (0, 2):
            with self.assertRaises(NoMove):
                after(program, stand, does(n))
        stand = behind(program, does(1), does(2), stand=stand)
        self.assertEqual([move for move in moves(program, stand, 4) if move[0] != "deed"], [comes(0), comes(1), comes(2)])

    def test_off_ones_too(self):
        program = saving(house=("  in order",))
        stand = behind(program, deed("go", 1), deed("go", 2), deed("stop"), deed("load", 1))
        self.assertEqual([move for move in moves(program, stand, 4) if move[0] != "deed"], [does(0), gone(0), gone(1)])
        self.tasks([task(1, "out", "off"), task(1, "out", ask="load")], behind(program, gone(1), stand=stand))
        stand = behind(program, does(0), stand=stand)
        self.assertEqual(stand, ((1,), (0, 0), (), (task(2, "out", "off"), task(1, "out", ask="load"))))
        self.assertEqual([move for move in moves(program, stand, 4) if move[0] != "deed"], [does(0), gone(0)])
        stand = behind(program, gone(0), stand=stand)
        self.assertEqual(stand[0], (1,))
        self.assertEqual([move for move in moves(program, stand, 4) if move[0] != "deed"], [does(0)])

    def test_held_ones_are_not_out(self):
        program = saving("  send save resting", house=("  in order",))
        stand = behind(program, deed("go", 1), deed("load", 1))
        self.tasks([task(1, "out", ask="load"), task(1, "held", had=0)], stand)
        self.assertEqual([move for move in moves(program, stand, 4) if move[0] != "deed"], [does(0), sends(1)])

    def test_passed_ones_are_out(self):
        program = saving("  take save last", house=("  in order",))
        stand = behind(program, deed("go", 1), deed("go", 2))
        self.assertEqual([move for move in moves(program, stand, 2) if move[0] != "deed"], [does(0)])

    def test_without_it_each_can_be_done(self):
        stand = behind(saving(), deed("go", 1), deed("load", 2), deed("go", 3))
        self.assertEqual([move for move in moves(saving(), stand, 4) if move[0] == "does"], [does(0), does(1), does(2)])

    def test_results_come_in_whatever_sequence(self):
        program = saving(house=("  in order",))
        stand = behind(program, deed("go", 1), deed("go", 2), does(0), does(1), comes(1))
        self.tasks([answered(1, had=0)], stand)


class Off(Told):
    def test_out_ones_are_off(self):
        program = saving()
        stand = behind(program, deed("go", 1), deed("load", 2), deed("go", 2), deed("stop"))
        self.assertEqual(stand, ((0,), (0, 0), (), (
            task(1, "out", "off"), task(2, "out", ask="load"), task(2, "out", "off"))))

    def test_held_answered_and_refused_ones_are_gone(self):
        program = saving("  send save queued")
        begun = self.begin(program, answered(1), task(3, "refused"), task(2, "out"), task(1, "out", ask="load"),
                           answered(1, "passed"), task(3, "out", "passed"), task(0, "held"), task(1, "held", "passed"))
        stand = behind(program, deed("stop"), stand=begun)
        self.tasks([task(2, "out", "off"), task(1, "out", ask="load"), task(3, "out", "off")], stand)

    def test_guesses_are_taken_back_the_last_ones_first(self):
        program = saving()
        stand = behind(program, deed("go", 1), deed("go", 2), deed("go", 3), does(1))
        self.assertEqual(stand[1], (3, 0))
        self.assertEqual(behind(program, deed("stop"), stand=stand)[1], (0, 0))

    def test_of_held_ones_too(self):
        program = saving("  send save queued")
        stand = behind(program, deed("go", 1), deed("go", 2), deed("go", 3), deed("stop"))
        self.assertEqual(stand, ((0,), (0, 0), (), (task(1, "out", "off"),)))

    def test_by_their_places(self):
        # Whatever their worths had been: the first one's is put back last.
        program = saving()
        stand = behind(program, deed("stop"), stand=self.begin(
            program, task(1, "out", had=2), answered(1, had=3), task(0, "out", had=1), c=0))
        self.assertEqual(stand[1], (2, 0))

    def test_does_and_gone(self):
        program = saving()
        stand = behind(program, deed("go", 1), deed("go", 2), deed("stop"))
        self.assertEqual([move for move in moves(program, stand, 2) if move[0] != "deed"], [does(0), does(1), gone(0), gone(1)])
        self.assertEqual(behind(program, does(1), stand=stand), ((2,), (0, 0), (), (task(1, "out", "off"),)))
        self.assertEqual(behind(program, gone(1), stand=stand), ((0,), (0, 0), (), (task(1, "out", "off"),)))
        self.assertEqual(behind(program, gone(0), does(0), stand=stand), ((2,), (0, 0), (), ()))

    def test_what_a_refused_off_one_set_stays(self):
        program = saving()
        stand = behind(program, deed("go", 3), deed("stop"), does(0))
        self.assertEqual(stand, ((3,), (0, 0), (), ()))

    def test_only_off_ones_are_gone(self):
        program = saving("  take save last")
        stand = behind(program, deed("go", 1), deed("go", 2))
        self.assertEqual([move for move in moves(program, stand, 4) if move[0] == "gone"], [])
        for n in (0, 1):
            with self.assertRaises(NoMove):
                after(program, stand, gone(n))

    def test_off_ones_stay_off(self):
        program = saving()
        stand = behind(program, deed("go", 1), deed("stop"))
        self.assertEqual(behind(program, deed("stop"), stand=stand), stand)
        with self.assertRaises(NoMove):
            after(program, behind(program, does(0), stand=stand), comes(0))

    def test_with_none_there(self):
        program = saving()
        stand = behind(program, deed("load", 1))
        self.assertEqual(behind(program, deed("stop"), stand=stand), stand)

    def test_several_cells_of_one_task(self):
        program = made("worths 4", "house", "  ask save", "screen", "  cell c 1", "  cell d 2", "  cell e 3", "  show c",
                       "  back e redone", "  deed go", "    ask save 0 guess d = 0 guess c = 0", "  deed see",
                       "    ask save 0 guess e = 0 guess c + 1", "  deed stop", "    off save")
        stand = behind(program, deed("go"), deed("see"))
        self.assertEqual(stand[1:], ((1, 0, (3, (("set", 0, 1),))), (), (
            ("save", 0, "out", 0, "live", (("c", 1), ("d", 2))), ("save", 0, "out", 0, "live", (("c", 0),)))))
        self.assertEqual(behind(program, deed("stop"), stand=stand), ((), (1, 2, (3, ())), (), (
            task(0, "out", "off"), task(0, "out", "off"))))

    def test_in_a_handler(self):
        program = made("worths 4", "house", "  ask save", "    answer it", "  ask load", "    answer it", "screen",
                       "  cell c 0", "  show c", "  deed go upto 3", "    ask save it guess c = it", "  deed see",
                       "    ask load 1", "  answer load", "    off save", "    add c 2")
        stand = behind(program, deed("go", 1), deed("see"), deed("go", 3), does(0), does(1), comes(1))
        self.assertEqual(stand[1:], ((2,), (), (task(3, "out", "off"),)))

    def test_those_made_behind_it_are_live(self):
        program = made("worths 4", "house", "  ask save", "screen", "  cell c 0", "  show c", "  deed go upto 3", "    off save",
                       "    ask save it guess c + it", "    add c 1")
        stand = behind(program, deed("go", 2), deed("go", 3))
        # 2 is guessed and 1 added; then 2 is taken back: c is 0, as it was ahead of the guess.
        self.assertEqual(stand[1:], ((0,), (), (task(2, "out", "off"), task(3, "out", had=0))))


class CountedBehind(Told):
    def test_many_counts_the_tasks_behind_a_deed(self):
        program = saving()
        stand = behind(program, deed("go", 1))
        self.assertNotIn(deed("go", 1), moves(program, stand, 1))
        self.assertIn(deed("go", 1), moves(program, stand, 2))
        off = behind(program, deed("stop"), stand=stand)
        # Off ones count; what is called off but not gone is no room.
        self.assertNotIn(deed("go", 1), moves(program, off, 1))
        self.assertIn(deed("stop"), moves(program, off, 1))

    def test_what_a_deed_lets_go_makes_room(self):
        program = saving("  send save latest")
        stand = behind(program, deed("go", 1), deed("go", 2))
        self.assertIn(deed("go", 3), moves(program, stand, 2))
        self.assertNotIn(deed("load", 3), moves(program, stand, 2))
        program = saving("  send save one")
        self.assertIn(deed("go", 3), moves(program, behind(program, deed("go", 1)), 1))

    def test_with_too_many_there(self):
        program = saving()
        stand = behind(program, *[deed("go", 1)] * 6)
        self.assertEqual(len(stand[3]), 6)
        self.assertEqual(moves(program, stand, 4), tuple(does(n) for n in range(6)))
        stand = behind(program, *[does(0)] + [does(n) for n in range(1, 6)], stand=stand)
        # stop lets all of them go.
        self.assertEqual(moves(program, stand, 4), tuple(comes(n) for n in range(6)) + (deed("stop"),))


if __name__ == "__main__":
    unittest.main()
