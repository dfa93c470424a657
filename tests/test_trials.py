"""Section 15: trials, copies and equality of keepers."""

import random
import unittest

from lastasked.errors import BadPrograms, NoMove, NothingToRedo, NothingToUndo
from lastasked.journals import read_journal
from lastasked.keeper import Keeper
from tests.helper import comes, deed, does, made
from tests.passages import Passing
from tests.searches import FIND
from tests.test_keeper import LAST, STORY, TYPE, all_seen, kept


class Broken(Exception):
    pass


class Trials(unittest.TestCase):
    def keeper(self):
        """With some moves done, and two that were taken back."""
        keeper = kept(LAST, 2, *STORY[:4])
        keeper.exchange(TYPE)
        keeper.undo()
        keeper.undo()
        return keeper

    def test_not_kept(self):
        keeper = self.keeper()
        before = all_seen(keeper)
        with keeper.trial() as trial:
            self.assertEqual(all_seen(keeper), before)
            keeper.do(does(1))
            keeper.do(comes(1))
            self.assertNotEqual(all_seen(keeper), before)
        self.assertEqual(all_seen(keeper), before)
        self.assertIsNotNone(trial)
        keeper.redo()
        keeper.redo()
        self.assertEqual(keeper.programs, (LAST, TYPE))

    def test_kept(self):
        keeper = self.keeper()
        with keeper.trial() as trial:
            keeper.do(does(1))
            self.assertIsNone(trial.keep())
            keeper.do(comes(1))
        self.assertEqual(keeper.story, STORY[:3] + (does(1), comes(1)))
        self.assertRaises(NothingToRedo, keeper.redo)
        for n in range(4, -1, -1):
            keeper.undo()
            self.assertEqual(len(keeper.story), n)
        self.assertRaises(NothingToUndo, keeper.undo)

    def test_each_move_and_exchange(self):
        for act in (lambda one: one.undo(), lambda one: one.redo(), lambda one: one.do(does(1)), lambda one: one.exchange(LAST), lambda one: one.exchange(TYPE), lambda one: None, lambda one: [one.undo() for _ in range(3)],
                    lambda one: (one.redo(), one.redo()), lambda one: (one.undo(), one.do(does(1)))):
            keeper, other = self.keeper(), self.keeper()
            before = all_seen(keeper)
            with keeper.trial():
                act(keeper)
            self.assertEqual(all_seen(keeper), before)
            with keeper.trial() as trial:
                act(keeper)
                trial.keep()
            act(other)
            self.assertEqual(all_seen(keeper), all_seen(other))

    def test_left_by_an_error(self):
        for keep in (False, True):
            keeper = self.keeper()
            before = all_seen(keeper)
            error = Broken("here")
            with self.assertRaises(Broken) as caught:
                with keeper.trial() as trial:
                    keeper.do(does(1))
                    if keep:
                        trial.keep()
                    raise error
            self.assertIs(caught.exception, error)
            self.assertEqual(all_seen(keeper), before)
            with self.assertRaises(NoMove):
                with keeper.trial() as trial:
                    trial.keep()
                    keeper.undo()
                    keeper.do(comes(3))
            self.assertEqual(all_seen(keeper), before)

    def test_an_error_that_is_caught_in_it(self):
        keeper = self.keeper()
        with keeper.trial() as trial:
            keeper.do(does(1))
            self.assertRaises(NoMove, keeper.do, does(1))
            self.assertRaises(BadPrograms, keeper.exchange, made("worths 2", *FIND[1:7], "  deed go", "    anew"))
            trial.keep()
        self.assertEqual(keeper.story, STORY[:3] + (does(1),))

    def test_left_otherwise(self):
        keeper = self.keeper()
        before = all_seen(keeper)
        def leave(keep):
            for _ in range(3):
                with keeper.trial() as trial:
                    keeper.do(does(1))
                    if keep:
                        trial.keep()
                    return "left"
        self.assertEqual(leave(False), "left")
        self.assertEqual(all_seen(keeper), before)
        for _ in range(2):
            with keeper.trial():
                keeper.do(does(1))
                continue
        for _ in range(2):
            with keeper.trial():
                keeper.undo()
                break
        self.assertEqual(all_seen(keeper), before)
        leave(True)
        self.assertEqual(keeper.story, STORY[:3] + (does(1),))

    def test_one_within_another(self):
        for outer in (False, True):
            for inner in (False, True):
                keeper = self.keeper()
                before = all_seen(keeper)
                with keeper.trial() as first:
                    keeper.do(does(1))
                    between = all_seen(keeper)
                    with keeper.trial() as second:
                        keeper.do(comes(1))
                        if inner:
                            second.keep()
                    if not inner:
                        self.assertEqual(all_seen(keeper), between)
                    else:
                        self.assertEqual(keeper.story[-1], comes(1))
                    if outer:
                        first.keep()
                if not outer:
                    self.assertEqual(all_seen(keeper), before)
                else:
                    self.assertEqual(keeper.story, STORY[:3] + (does(1),) + ((comes(1),) if inner else ()))
        # The outer one asked for from within the inner one.
        keeper = self.keeper()
        with keeper.trial() as first:
            keeper.do(does(1))
            with keeper.trial():
                keeper.do(comes(1))
                first.keep()
        self.assertEqual(keeper.story, STORY[:3] + (does(1),))

    def test_ahead_of_the_block(self):
        # What counts is the keeper as the block begins, and keep in this block.
        keeper = self.keeper()
        trial = keeper.trial()
        keeper.do(does(1))
        before = all_seen(keeper)
        with trial:
            keeper.do(comes(1))
        self.assertEqual(all_seen(keeper), before)
        with trial:
            keeper.do(comes(1))
            trial.keep()
        self.assertEqual(keeper.story[-1], comes(1))
        later = all_seen(keeper)
        with trial:
            keeper.undo()
        self.assertEqual(all_seen(keeper), later)

    def test_the_same_keeper(self):
        keeper = self.keeper()
        other = self.keeper()
        with keeper.trial():
            keeper.do(does(1))
            with other.trial() as trial:
                other.undo()
                trial.keep()
        self.assertEqual([len(keeper.story), len(other.story)], [3, 2])

    def test_drawn(self):
        for seed in range(5700, 5740):
            draw = random.Random(seed)
            programs = Passing(draw).programs(2)
            if len(programs) < 2:
                continue
            keeper = Keeper(programs[0], 3)
            for _ in range(10):
                before = all_seen(keeper)
                keep, fail = draw.random() < 0.5, draw.random() < 0.2
                try:
                    with keeper.trial() as trial:
                        if keep:
                            trial.keep()
                        for _ in range(draw.randint(1, 4)):
                            act(draw, keeper, programs)
                        inside = all_seen(keeper)
                        if fail:
                            raise Broken
                except Broken:
                    self.assertTrue(fail)
                self.assertEqual(all_seen(keeper), inside if keep and not fail else before)


def act(draw, keeper, programs):
    """Do something that is drawn, if it can be done."""
    kind = draw.choice(("do", "do", "exchange", "undo", "redo"))
    try:
        if kind == "do":
            keeper.do(draw.choice(keeper.moves()))
        elif kind == "exchange":
            keeper.exchange(draw.choice(programs))
        elif kind == "undo":
            keeper.undo()
        else:
            keeper.redo()
    except (NoMove, NothingToUndo, NothingToRedo):
        pass


class Tried(unittest.TestCase):
    def test_what_look_returns(self):
        keeper = kept(TYPE, 2, *STORY[:2])
        before = all_seen(keeper)
        given = []
        def look(one):
            given.append(one)
            for move in STORY[2:]:
                one.do(move)
            return one.wrongs(), [one]
        found = keeper.tried(look)
        self.assertEqual(found[0], ((6, "elder"),))
        self.assertIs(given[0], keeper)
        self.assertIs(found[1][0], keeper)
        self.assertEqual(all_seen(keeper), before)
        self.assertEqual(keeper.tried(look, keep=False)[0], ((6, "elder"),))
        self.assertEqual(all_seen(keeper), before)
        self.assertEqual(keeper.tried(look, keep=True)[0], ((6, "elder"),))
        self.assertEqual(keeper.story, STORY)
        self.assertIsNone(keeper.tried(lambda one: None))
        with self.assertRaises(TypeError):
            keeper.tried(look, True)

    def test_a_look_that_raises(self):
        keeper = kept(TYPE, 2, *STORY[:2])
        keeper.undo()
        before = all_seen(keeper)
        error = Broken()
        def look(one):
            one.redo()
            one.do(does(0))
            raise error
        for keep in (False, True):
            with self.assertRaises(Broken) as caught:
                keeper.tried(look, keep=keep)
            self.assertIs(caught.exception, error)
            self.assertEqual(all_seen(keeper), before)
            self.assertRaises(NoMove, keeper.tried, lambda one: one.do(comes(0)), keep=keep)
            self.assertEqual(all_seen(keeper), before)

    def test_within_one_another(self):
        keeper = kept(TYPE, 2, *STORY[:2])
        def inner(one):
            return one.do(does(1))
        def outer(one):
            one.do(does(0))
            one.tried(inner, keep=True)
            one.tried(lambda other: other.undo())
            return one.story
        before = all_seen(keeper)
        self.assertEqual(keeper.tried(outer), STORY[:2] + (does(0), does(1)))
        self.assertEqual(all_seen(keeper), before)
        keeper.tried(outer, keep=True)
        self.assertEqual(keeper.story, STORY[:2] + (does(0), does(1)))


class Copies(unittest.TestCase):
    def test_go_on_by_themselves(self):
        keeper = kept(LAST, 2, *STORY[:4])
        keeper.exchange(TYPE)
        keeper.undo()
        keeper.undo()
        before = all_seen(keeper)
        copy = keeper.copy()
        self.assertIs(type(copy), Keeper)
        self.assertIsNot(copy, keeper)
        self.assertEqual(all_seen(copy), before)
        copy.redo()
        copy.redo()
        copy.do(comes(0))
        self.assertEqual([copy.programs, len(copy.story)], [(LAST, TYPE), 6])
        self.assertEqual(all_seen(keeper), before)
        later = all_seen(copy)
        keeper.undo()
        keeper.do(does(1))
        keeper.exchange(LAST)
        self.assertEqual(all_seen(copy), later)
        self.assertEqual(all_seen(keeper.copy().copy()), all_seen(keeper))

    def test_in_a_trial(self):
        keeper = kept(TYPE, 2, *STORY[:2])
        with keeper.trial():
            keeper.do(does(0))
            copy = keeper.copy()
        self.assertEqual([copy.story, keeper.story], [STORY[:3], STORY[:2]])
        with keeper.trial():
            copy.undo()
        self.assertEqual(copy.story, STORY[:2])


class Equality(unittest.TestCase):
    def same(self, one, other, wanted=True):
        self.assertIs(one == other, wanted)
        self.assertIs(other == one, wanted)
        self.assertIs(one != other, not wanted)

    def test_many_programs_story(self):
        self.same(Keeper(TYPE, 2), Keeper(made(*FIND), 2))
        self.same(Keeper(TYPE, 2), Keeper(TYPE, 3), False)
        self.same(Keeper(TYPE, 2), Keeper(LAST, 2), False)
        self.same(kept(TYPE, 2, *STORY), kept(TYPE, 2, *STORY))
        self.same(kept(TYPE, 2, *STORY), kept(TYPE, 2, *STORY[:5]), False)
        # What the two stories lead to is alike.
        one, other = kept(TYPE, 2, *STORY[:2], does(0), does(1)), kept(TYPE, 2, *STORY[:2], does(1), does(0))
        self.assertEqual(one.stand, other.stand)
        self.same(one, other, False)

    def test_all_programs_so_far(self):
        one, other = Keeper(LAST, 2), Keeper(LAST, 2)
        one.exchange(TYPE)
        other.exchange(LAST)
        self.same(one, other, False)
        one.exchange(LAST)
        other.exchange(LAST)
        self.same(one, other, False)
        third = Keeper(made(*FIND[:7], "  take find last", *FIND[7:]), 2)
        third.exchange(made(*FIND))
        third.exchange(LAST)
        self.same(one, third)

    def test_what_was_taken_back_counts_for_nothing(self):
        one, other = kept(TYPE, 2, *STORY), kept(TYPE, 2, *STORY[:3])
        for _ in range(3):
            one.undo()
        self.same(one, other)
        self.same(one, one.copy())
        self.same(one, read_journal(one.journal))

    def test_nothing_else(self):
        keeper = kept(TYPE, 2, deed("type", 1))
        for value in (None, 0, True, "", keeper.journal, keeper.story, (), [], {}, TYPE, keeper.programs, keeper.stand, object()):
            self.same(keeper, value, False)
        self.assertIn(keeper, [None, keeper.copy()])


if __name__ == "__main__":
    unittest.main()
