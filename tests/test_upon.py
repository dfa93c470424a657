"""Section 12: guesses that lie one upon the other, beside a plain search."""

import unittest
from unittest import mock

from lastasked.errors import BadMany, TooMany
from lastasked.guesses import shows_upon, upon
from lastasked.moves import after
from lastasked.stands import first_stand
from tests.helper import comes, deed, does, made, sends
from tests.marks import keys_of, lies, member_behind, members_by_moves
from tests.searches import Lean, lean_programs
from tests.test_rests import WIDE, WIDE_DEEDS

HOUSE = ("worths 2", "house", "  ask save", "    answer it")
CELL = ("screen", "  cell c 0", "  show c")
TWO = ("screen", "  cell c 0", "  cell d 1", "  show c")


class Told(unittest.TestCase):
    def told(self, program, many):
        """{(lower, upper, cell): length of the story} and the table, laid beside the plain search."""
        found = upon(program, many)
        wanted = members_by_moves(program, many)
        self.assertEqual([type(found), len(found), type(found[0])], [tuple, 2, tuple])
        self.assertEqual(repr(found[1]), repr(tuple(sorted(wanted))))
        self.assertEqual([row[:3] for row in found[0]], keys_of(program))
        for row in found[0]:
            lengths = [length for member, length in wanted.items() if lies(member, row[:3])]
            self.assertEqual([type(row), len(row), type(row[3]), len(row[3])], [tuple, 4, tuple, min(lengths, default=0)], program.text)
            member = (first_stand(program), ())
            for move in row[3]:
                member = member_behind(program, member, move)
            self.assertTrue(row[3] == () or lies(member, row[:3]))
        self.assertIs(shows_upon(program, many, found), True)
        return {row[:3]: len(row[3]) for row in found[0]}, found[1]

    def lengths(self, program, many, **wanted):
        """The lengths of the stories, named as lower_upper_cell."""
        found = self.told(program, many)[0]
        self.assertEqual(found, {(int(one), int(two), cell): length for (one, two, cell), length
                                 in ((name[1:].split("_"), length) for name, length in wanted.items())})

    def marks(self, program, *story, many=4):
        """The marks behind a story, which are in the table, too."""
        member = (first_stand(program), ())
        for move in story:
            member = member_behind(program, member, move)
            self.assertEqual(member[0], after(program, self.before, move) if move is not story[0] else after(program, first_stand(program), move))
            self.before = member[0]
        self.assertIn(repr(member), [repr(other) for other in upon(program, many)[1]])
        return member[1]


class Statements(Told):
    def test_kept_and_redone(self):
        rows = HOUSE + CELL
        for back in ((), ("  back c redone",)):
            program = made(*rows, *back, "  deed pick", "    ask save 1 guess c + 1")
            line = 10 + len(back) - 1
            self.lengths(program, 1, **{f"l{line}_{line}_c": 0})
            for many in (2, 3):
                self.lengths(program, many, **{f"l{line}_{line}_c": 2})

    def test_two_statements(self):
        program = made(*HOUSE, *CELL, "  deed pick", "    ask save 1 guess c + 1", "  deed tap", "    ask save 0 guess c = 1")
        self.lengths(program, 2, l9_9_c=2, l9_11_c=2, l11_9_c=2, l11_11_c=2)
        self.lengths(program, 1, l9_9_c=0, l9_11_c=0, l11_9_c=0, l11_11_c=0)

    def test_two_guesses_of_one_statement(self):
        program = made(*HOUSE, *TWO, "  back d redone", "  deed pick", "    ask save 1 guess d + 1 guess c = 0", "    ask save 0 guess d = 0")
        # Two tasks of a deed that asks twice, so two deeds are needed for one beside itself.
        self.lengths(program, 2, l11_11_c=0, l11_11_d=0, l11_12_d=1, l12_11_d=0, l12_12_d=0)
        self.lengths(program, 4, l11_11_c=2, l11_11_d=2, l11_12_d=1, l12_11_d=2, l12_12_d=2)

    def test_a_task_alone_lies_upon_nothing(self):
        program = made(*HOUSE, *TWO, "  deed pick", "    ask save 1 guess d + 1 guess c = 0")
        self.lengths(program, 1, l10_10_c=0, l10_10_d=0)

    def test_different_cells(self):
        program = made(*HOUSE, *TWO, "  deed pick", "    ask save 1 guess c + 1", "    ask save 0 guess d + 1")
        self.lengths(program, 2, l10_10_c=0, l11_11_d=0)
        self.lengths(program, 4, l10_10_c=2, l11_11_d=2)

    def test_in_ifs(self):
        program = made(*HOUSE, *TWO, "  deed pick upto 1", "    if it = 1", "      if c = d", "        ask save 1 guess c + 1", "      else",
                       "        ask save 0 guess c = d", "    else", "      ask save it")
        # The one in the else makes c and d alike, the other one makes them unlike: others must come in between.
        self.lengths(program, 2, l12_12_c=8, l12_14_c=5, l14_12_c=2, l14_14_c=5)

    def test_on_several_ways(self):
        # One statement behind an if is on both ways.
        program = made(*HOUSE, *TWO, "  deed pick upto 1", "    if it = 1", "      add d 1", "    ask save d guess c = it")
        self.lengths(program, 2, l12_12_c=2)

    def test_below_answer(self):
        program = made("worths 2", "house", "  ask save", "    answer it", "  ask load", "    answer 1", *TWO, "  deed pick", "    ask save 1 guess c + 1",
                       "  answer save", "    ask load 0 guess c = it")
        # The guess of save is settled as it comes, so only another one's lies there.
        self.lengths(program, 1, l12_12_c=0, l12_14_c=0, l14_12_c=0, l14_14_c=0)
        self.lengths(program, 2, l12_12_c=2, l12_14_c=4, l14_12_c=4, l14_14_c=6)

    def test_below_refused(self):
        program = made("worths 2", "house", "  ask save", "    refuse", "  ask load", "    answer 1", *TWO, "  back c redone", "  deed pick",
                       "    ask save 1 guess c + 1", "  refused save", "    ask load asked guess c = 1")
        self.lengths(program, 2, l13_13_c=2, l13_15_c=4, l15_13_c=4, l15_15_c=6)

    def test_below_over(self):
        program = made(*HOUSE, *CELL, "  deed pick", "    ask save 1 guess c + 1", "  over", "    if c = 0", "      ask save 0 guess c = 1")
        for many in (1, 2):
            self.lengths(program, many, l9_9_c=2 if many > 1 else 0, l9_12_c=0, l12_9_c=0, l12_12_c=0)

    def test_no_guess_at_all(self):
        program = made(*HOUSE, *CELL, "  deed pick", "    ask save 1")
        found, table = self.told(program, 2)
        self.assertEqual(found, {})
        self.assertEqual(table[1][1], ((9, 0, ()),))
        still = made(*HOUSE, *CELL, "  deed pick", "    set c 0")
        self.assertEqual(upon(still, 4), ((), ((first_stand(still), ()),)))

    def test_not_asked_for(self):
        # The words of other lines are no guesses, and a name may be a word of the table.
        program = made("worths 2", "house", "  ask guess", "    answer it", "screen", "  cell ask 0", "  cell guess 0", "  show ask", "  deed ask",
                       "    ask guess ask guess ask = guess", "    ask guess guess", "    set guess ask")
        self.lengths(program, 4, l10_10_ask=2)


class Marks(Told):
    def test_made_ahead(self):
        program = made(*HOUSE, *CELL, "  send save queued", "  deed pick", "    ask save 1 guess c + 1", "  deed tap", "    ask save 0 guess c = 1")
        story = (deed("pick"), deed("tap"), deed("tap"))
        self.assertEqual(self.marks(program, *story), ((10, 0, ("c",)), (12, 1, ("c",)), (12, 2, ("c",))))
        self.assertEqual(self.marks(program, *story, does(0), comes(0)), ((12, 0, ("c",)), (12, 1, ("c",))))
        self.assertEqual(self.marks(program, *story, does(0), comes(0), sends(0), deed("pick")), ((12, 0, ("c",)), (12, 1, ("c",)), (10, 2, ("c",))))
        self.told(program, 3)

    def test_a_held_one_goes_out_behind_others(self):
        # The second task of save is made ahead of load's, and goes out behind it.
        program = made("worths 2", "house", "  ask save", "  ask load", *CELL, "  send save latest", "  deed pick", "    ask save 1 guess c + 1", "  deed get",
                       "    ask load 0 guess c = 1")
        story = (deed("pick"), deed("pick"), deed("get"))
        self.assertEqual(self.marks(program, *story), ((10, 0, ("c",)), (12, 2, ("c",)), (10, 1, ("c",))))
        story += (does(0), comes(0))
        self.assertEqual(self.marks(program, *story), ((12, 1, ("c",)), (10, 0, ("c",))))
        self.assertEqual(self.marks(program, *story, sends(1)), ((12, 1, ("c",)), (10, 0, ("c",))))
        self.lengths(program, 2, l10_10_c=2, l10_12_c=2, l12_10_c=2, l12_12_c=2)
        self.told(program, 3)

    def test_a_held_one_that_is_put_aside(self):
        program = made("worths 2", "house", "  ask save", *CELL, "  send save latest", "  deed pick upto 1", "    if it = 0", "      ask save 1 guess c + 1", "    else",
                       "      ask save 0 guess c = 1")
        line = 10
        self.assertEqual(self.marks(program, deed("pick"), deed("pick"), deed("pick", 1)), ((line, 0, ("c",)), (line + 2, 1, ("c",))))
        self.told(program, 4)

    def test_resting(self):
        program = made("worths 2", "house", "  ask save", *CELL, "  send save resting", "  deed pick", "    ask save 1 guess c + 1")
        # A new one puts the held one aside, so that one must have gone out.
        self.lengths(program, 2, l9_9_c=3)

    def test_one(self):
        program = made("worths 2", "house", "  ask save", *CELL, "  send save one", "  deed pick", "    ask save 1 guess c + 1")
        self.lengths(program, 4, l9_9_c=0)

    def test_takes(self):
        # What is passed has its guess until it comes.
        for word, lines in (("last", 9), ("rising", 9)):
            program = made("worths 2", "house", "  ask save", *CELL, f"  take save {word}", "  deed pick", "    ask save 1 guess c + 1")
            self.lengths(program, 3, l9_9_c=2)

    def test_off(self):
        for off, length in ((True, 0), (False, 2)):
            program = made("worths 2", "house", "  ask save", *CELL, "  deed pick", *(("    off save",) if off else ()), "    ask save 1 guess c + 1")
            line = 9 if off else 8
            self.lengths(program, 2, **{f"l{line}_{line}_c": length})
        # What is off has none, but is counted among those that were made ahead.
        program = made("worths 2", "house", "  ask save", "  ask load", *CELL, "  deed pick", "    ask save 1 guess c + 1", "    ask load 1 guess c + 1", "  deed stop", "    off save")
        self.assertEqual(self.marks(program, deed("pick"), deed("stop"), deed("pick"))[:3], ((9, 0, ()), (10, 1, ("c",)), (9, 2, ("c",))))

    def test_anew(self):
        for back in ((), ("  back c redone",)):
            program = made("worths 2", "house", "  ask save", *CELL, *back, "  deed pick", "    ask save 1 guess c + 1", "  deed wipe", "    anew")
            line = 8 + len(back)
            self.assertEqual(self.marks(program, deed("pick"), deed("wipe"), deed("pick"), many=2), ((line, 0, ()), (line, 1, ("c",))))
            self.lengths(program, 2, **{f"l{line}_{line}_c": 2})
            wiping = made("worths 2", "house", "  ask save", *CELL, *back, "  deed pick", "    anew", "    ask save 1 guess c + 1")
            self.lengths(wiping, 3, **{f"l{line + 1}_{line + 1}_c": 0})

    def test_refused_and_answered_ones_have_it_until_they_come(self):
        for ending in ("    refuse", "    answer 1"):
            for back in ((), ("  back c redone",)):
                program = made("worths 2", "house", "  ask save", ending, *CELL, *back, "  deed pick", "    ask save 1 guess c + 1")
                line = 9 + len(back)
                self.assertEqual(self.marks(program, deed("pick"), does(0), deed("pick")), ((line, 0, ("c",)), (line, 1, ("c",))))
                self.assertEqual(self.marks(program, deed("pick"), does(0), deed("pick"), comes(0)), ((line, 0, ("c",)),))
                self.told(program, 2)

    def test_stored_answers(self):
        # With only a stored answer makes no task, so its guess lies nowhere; with both one is made as always.
        rows = ("worths 2", "house", "  ask save", "    answer it", *CELL)
        only = made(*rows, "  keep save only", "  back c redone", "  deed pick", "    ask save 1 guess c + 1")
        self.assertEqual(self.marks(only, deed("pick"), does(0), comes(0), deed("pick")), ())
        self.lengths(only, 2, l11_11_c=2)
        both = made(*rows, "  keep save both", "  back c redone", "  deed pick", "    ask save 1 guess c + 1")
        self.assertEqual(self.marks(both, deed("pick"), does(0), comes(0), deed("pick")), ((11, 0, ("c",)),))
        self.lengths(both, 2, l11_11_c=2)
        # What a stored answer's handler asks for has its own line.
        more = made("worths 2", "house", "  ask save", "    answer it", "  ask load", *CELL, "  keep save only", "  deed pick", "    ask save 1", "  answer save",
                    "    ask load 1 guess c + 1")
        self.assertEqual(self.marks(more, deed("pick"), does(0), comes(0), deed("pick")), ((13, 0, ("c",)), (13, 1, ("c",))))
        self.lengths(more, 2, l13_13_c=4)

    def test_two_tasks_on_one_way(self):
        # The handler of the stored answer asks ahead of nothing: the task that both makes is made first.
        program = made("worths 2", "house", "  ask save", "    answer it", "  ask load", *CELL, "  keep save both", "  deed pick", "    ask save 1 guess c + 1", "  answer save",
                       "    ask load 1 guess c + 1")
        self.assertEqual(self.marks(program, deed("pick"), does(0), comes(0), deed("pick"), many=3), ((13, 0, ("c",)), (11, 1, ("c",)), (13, 2, ("c",))))
        self.lengths(program, 3, l11_11_c=2, l11_13_c=4, l13_11_c=4, l13_13_c=4)

    def test_one_sequence_of_cells(self):
        program = made("worths 2", "house", "  ask save", "screen", "  cell d 0", "  cell c 0", "  show c", "  back d redone", "  deed pick", "    ask save 1 guess d + 1 guess c + 1")
        self.assertEqual(self.marks(program, deed("pick"), many=1), ((10, 0, ("c", "d")),))


class Guessing(Lean):
    """Draws programs that guess with each ask."""

    def ask_words(self, values, lets):
        words = super().ask_words(values, lets)
        cell = self.draw.choice(self.cells)
        return words if len(words) > 3 else words + ["guess", cell, self.draw.choice("=+"), self.value(values)]


class Drawn(Told):
    def test_beside_a_plain_search(self):
        stories = none = 0
        for seed, program in lean_programs(range(300, 370), Guessing):
            for many in (1, 2):
                if members_by_moves(program, many, 700) is not None:
                    found = self.told(program, many)[0]
                    stories += len([length for length in found.values() if length])
                    none += len([length for length in found.values() if not length])
        self.assertGreater(stories, 100)
        self.assertGreater(none, 100)

    def test_three_asks(self):
        for seed, program in lean_programs(range(420, 450), Guessing):
            if members_by_moves(program, 3, 500) is not None:
                self.told(program, 3)


class Errors(unittest.TestCase):
    PROGRAM = made(*HOUSE, *CELL, "  deed pick", "    ask save 1 guess c + 1")

    def test_many(self):
        for value in (0, 5, -1, True, False, None, "1", (1,), [1], {1: 1}):
            for call in (lambda: upon(self.PROGRAM, value), lambda: shows_upon(self.PROGRAM, value, None)):
                with self.assertRaises(BadMany) as caught:
                    call()
                self.assertIs(caught.exception.value, value)

    def test_by_name(self):
        found = upon(program=self.PROGRAM, many=2)
        self.assertEqual(repr(found), repr(upon(self.PROGRAM, 2)))
        self.assertIs(shows_upon(program=self.PROGRAM, many=2, value=found), True)

    def test_too_many(self):
        program = made(*WIDE, "  show a", *WIDE_DEEDS)
        with self.assertRaises(TooMany) as caught:
            upon(program, 2)
        self.assertEqual(repr(caught.exception.number), "6000")
        self.assertIs(shows_upon(program, 2, ((), ())), False)

    def test_just_so_many(self):
        for seed, program in lean_programs(range(470, 485), Guessing):
            wanted = len(members_by_moves(program, 1, 3000) or ())
            for most in (wanted - 1, wanted):
                with mock.patch("lastasked.tables.MOST_MEMBERS", most):
                    if most < wanted:
                        self.assertRaises(TooMany, upon, program, 1)
                    else:
                        self.assertEqual(len(upon(program, 1)[1]), wanted)


if __name__ == "__main__":
    unittest.main()
