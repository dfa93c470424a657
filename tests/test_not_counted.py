"""Section 9: programs of which any number of asks is not judged, by their first line."""

import unittest

from lastasked.counting import ever, shows_ever
from lastasked.errors import NotCounted
from tests.helper import made
from tests.test_stands import ANY


def program(*, order=False, words=(), deeds=("    ask one 0",), handlers=(), guess=""):
    """Of lines that are told; the words stand from line 13 on, behind them the deed's line."""
    rows = ["worths 2", "house"] + ["  in order"] * order + ["  cell n 0"] * (not order)
    rows += ["  ask one", "    answer it", "  ask two", "screen", "  cell x 0", "  cell y 0", "  cell rising 0", "  show x", "  unsure y = 1"]
    return made(*rows, *words, "  deed queued", *deeds, "  deed last", f"    ask two 0{guess}", *handlers)


class Lines(unittest.TestCase):
    def fails(self, line, made_program):
        for call in (lambda: ever(made_program), lambda: shows_ever(made_program, None), lambda: shows_ever(made_program, ("right", ()))):
            with self.assertRaises(NotCounted) as caught:
                call()
            self.assertEqual(repr(caught.exception.line), repr(line), made_program.text)

    def holds(self, made_program):
        found = ever(made_program)
        self.assertIn(found[0], ("right", "wrong"))
        self.assertIs(shows_ever(made_program, found), True)

    def test_each_word_alone(self):
        self.fails(3, program(order=True))
        self.fails(13, program(words=["  send one queued"]))
        self.fails(13, program(words=["  send two queued"]))
        self.fails(13, program(words=["  take one rising"]))
        self.fails(13, program(words=["  take two rising"]))
        self.fails(13, program(words=["  back x redone"]))
        self.fails(13, program(words=["  back rising redone"]))

    def test_behind_others(self):
        self.fails(14, program(words=["  take one last", "  take two rising", "  back x redone"]))
        self.fails(15, program(words=["  take one last", "  send one one", "  send two queued", "  keep one both"]))
        self.fails(17, program(words=["  take one last", "  send one one", "  send two latest", "  keep two only", "  back y redone"]))

    def test_the_first_of_several(self):
        self.fails(3, program(order=True, words=["  take one rising", "  send one queued", "  back x redone"], deeds=["    off two"], guess=" guess x = 0"))
        self.fails(13, program(words=["  take one rising", "  send one queued", "  back x redone"]))
        self.fails(13, program(words=["  send one queued", "  back x redone"], deeds=["    off two"], guess=" guess x = 0"))
        self.fails(13, program(words=["  back x redone"], deeds=["    off two"], guess=" guess x = 0"))
        self.fails(14, program(deeds=["    off two", "    off two"], guess=" guess x = 0"))
        self.fails(15, program(deeds=["    off one", "    off two"], guess=" guess x = 0"))

    def test_words_that_are_let(self):
        self.holds(program())
        for word in ("one", "latest", "resting"):
            self.holds(program(words=[f"  send one {word}", f"  send two {word}"]))
        for word in ("only", "both"):
            self.holds(program(words=["  take one last", "  take two last", f"  keep one {word}", f"  keep two {word}"]))

    def test_off_of_an_ask_that_makes_guesses(self):
        for guess in (" guess x = 0", " guess x + 1", " guess x + 1 guess y = x"):
            self.fails(14, program(deeds=["    off two"], guess=guess))
            self.holds(program(deeds=["    off one"], guess=guess))

    def test_with_each_word_of_send(self):
        for word, line in (("resting", 15), ("queued", 13)):
            self.fails(line, program(words=[f"  send two {word}"], deeds=["    off two"], guess=" guess x = 0"))
        for word in ("one", "latest"):
            self.holds(program(words=[f"  send two {word}"], deeds=["    off two"], guess=" guess x = 0"))
            # The word of the ask that is called off counts.
            self.fails(15, program(words=[f"  send one {word}"], deeds=["    off two"], guess=" guess x = 0"))

    def test_wherever_the_off_stands(self):
        self.fails(15, program(deeds=["    if x = 0", "      off two"], guess=" guess x = 0"))
        self.fails(17, program(deeds=["    if x = 0", "      set y 1", "    else", "      off two"], guess=" guess x = 0"))
        self.fails(16, program(deeds=["    if x = 0", "      if y = 0", "        off two"], guess=" guess x = 0"))
        self.fails(18, program(handlers=["  answer one", "    off two"], guess=" guess x = 0"))
        self.fails(18, program(handlers=["  refused two", "    off two"], guess=" guess x = 0"))
        self.fails(18, program(handlers=["  over", "    off two"], guess=" guess x = 0"))
        self.fails(20, program(handlers=["  answer two", "    off one", "  over", "    off two"], guess=" guess x = 0"))

    def test_wherever_the_guess_stands(self):
        off = ["    off two"]
        self.holds(program(deeds=off))
        self.fails(14, program(deeds=off, handlers=["  answer one", "    ask two 0 guess x = 1"]))
        self.fails(14, program(deeds=off, handlers=["  refused one", "    if x = 0", "      ask two 0 guess x = 1"]))
        self.fails(14, program(deeds=off, handlers=["  over", "    ask two 0 guess x = 1"]))
        self.fails(14, program(deeds=off + ["    ask one 0", "    ask two 0 guess y = 0"]))

    def test_names_are_no_words(self):
        names = made("worths 2", "house", "  cell order 0", "  ask queued", "  ask rising", "  ask off", "screen", "  cell redone 0",
                     "  cell in 0", "  show in", "  take queued last", "  send rising one", "  deed rising", "    ask queued 0",
                     "  deed queued", "    set redone 1", "  answer queued", "    ask off 0 guess in = 0")
        self.holds(names)

    def test_cells_and_deeds_called_as_asks(self):
        # What stands behind these names are no guesses of the asks.
        rows = ("worths 2", "house", "  ask go", "  ask x", "screen", "  cell x 0", "  cell y 0", "  show y", "  unsure x = 1", "  deed go upto 1",
                "    if x = 0", "      off go", "      off x", "    ask go 0", "    ask x 0")
        self.holds(made(*rows))
        self.fails(12, made(*rows[:13], "    ask go 0 guess y = 0", "    ask x 0"))
        self.fails(13, made(*rows[:13], "    ask go 0", "    ask x 0 guess y = 0"))

    def test_any_value(self):
        for value in ANY:
            with self.assertRaises(NotCounted):
                shows_ever(program(order=True), value)
            self.assertIs(shows_ever(program(), value), False)


if __name__ == "__main__":
    unittest.main()
