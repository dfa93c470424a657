"""Section 7: the plain meaning, by hand and beside a second reading."""

import random
import unittest

from lastasked.errors import NoMove
from lastasked.plain import plain_after, plain_first, plain_shown
from tests.helper import made
from tests.searches import drawn_program, second_plain_after
from tests.test_stands import ANY


def trace(*more, shows="a", words=()):
    """A program with two asks; a, b and c are there to tell what was done."""
    return made("worths 4", "house", "  cell n 0", "  ask one", "    set n it", "    if it = 3", "      refuse", "    answer it",
                "  ask two", "    add n it", "    answer n", "screen", "  cell a 0", "  cell b 0", "  cell c 0",
                f"  show {shows}", *words, *more)


class First(unittest.TestCase):
    def test_first(self):
        program = made("worths 4", "house", "  cell n 3", "  cell m 1", "  ask one", "screen", "  cell a 2", "  cell b 0",
                       "  show b a", "  back a redone", "  deed go", "    anew")
        self.assertEqual(repr(plain_first(program)), repr(((3, 1), (2, 0))))
        self.assertEqual(plain_shown(program, ((3, 1), (2, 0))), (0, 2))

    def test_bare(self):
        program = made("worths 2", "house", "  ask one", "screen", "  cell a 1", "  show a", "  deed go", "    anew")
        self.assertEqual(repr(plain_first(program)), repr(((), (1,))))

    def test_unsure(self):
        program = made("worths 3", "house", "  ask one", "screen", "  cell a 1", "  cell b 2", "  show a", "  unsure b = 2",
                       "  unsure a = 2", "  deed go", "    anew")
        self.assertIsNone(plain_shown(program, plain_first(program)))
        self.assertEqual(plain_shown(program, ((), (1, 1))), (1,))
        self.assertIsNone(plain_shown(program, ((), (2, 1))))


class After(unittest.TestCase):
    def told(self, program, name, it, behind, way, plain=None):
        plain = plain_first(program) if plain is None else plain
        self.assertEqual(repr(plain_after(program, plain, name, it)), repr((behind, way)))
        self.assertEqual(repr(second_plain_after(program, plain, name, it)), repr((behind, way)))

    def test_no_ask(self):
        self.told(trace("  deed go upto 3", "    add a it", "    add a it"), "go", 3, ((0,), (2, 0, 0)), ((2,),))

    def test_each_ask_is_done_at_once(self):
        program = trace("  deed go upto 2", "    ask one it", "  answer one", "    set a it")
        self.told(program, "go", 2, ((2,), (2, 0, 0)), ((0,), (2,)))
        self.told(program, "go", 1, ((1,), (1, 0, 0)), ((3,), (1,)), ((2,), (3, 0, 0)))

    def test_the_first_made_is_done_first(self):
        program = trace("  deed go", "    ask two 1", "    ask one 2", "    set b a", "  answer one", "    set a 3", "  answer two",
                        "    set a it")
        self.told(program, "go", 0, ((2,), (3, 0, 0)), ((0,), (1,), (3,)))

    def test_handlers_are_done_ahead_of_the_next_ask(self):
        # The house is asked by the handler's worth only then: two is asked with 1, and the second one with 2.
        program = trace("  deed go", "    ask one 1", "    ask one 2", "  answer one", "    ask two asked", "  answer two",
                        "    add a it")
        # one 1: n 1; one 2: n 2; two 1: n 3, a 3; two 2: n 1, a 0.
        self.told(program, "go", 0, ((1,), (0, 0, 0)), ((0,), (0,), (0,), (3,), (0,)))

    def test_asks_of_handlers_come_behind_those_that_are_left(self):
        program = trace("  deed go", "    ask one 1", "    ask two 1", "  answer one", "    ask two 2", "  answer two",
                        "    set c b", "    set b a", "    set a asked")
        self.told(program, "go", 0, ((0,), (2, 1, 0)), ((0,), (0,), (1,), (2,)))

    def test_refused(self):
        program = trace("  deed go upto 3", "    ask one it guess b = it", "  answer one", "    set a 1", "  refused one",
                        "    set a b", "    add a 2", "    add c it", "    ask two asked", "  answer two", "    set c it", shows="a b")
        # The guess is gone ahead of the handler; the house keeps what it set.
        self.told(program, "go", 3, ((2,), (2, 0, 2)), ((0, 3), (2, 0), (2, 0)))

    def test_without_handlers(self):
        program = trace("  deed go upto 3", "    ask one it guess a = it", "    ask two 1 guess a + 1")
        self.told(program, "go", 2, ((3,), (3, 0, 0)), ((3,), (3,), (3,)))
        self.told(program, "go", 3, ((0,), (1, 0, 0)), ((0,), (1,), (1,)))

    def test_off_takes_out_what_is_left(self):
        program = trace("  deed go", "    ask one 1 guess b = 1", "    ask one 2 guess b = 2 guess c + 3", "    off one", "    add a b",
                        "  answer one", "    set a 3")
        self.told(program, "go", 0, ((0,), (0, 0, 0)), ((0,),))

    def test_off_between_asks(self):
        program = trace("  deed go", "    ask one 1 guess b = 1", "    off one", "    ask one 2 guess b + 2", "  answer one",
                        "    add a it")
        self.told(program, "go", 0, ((2,), (2, 2, 0)), ((0,), (2,)))

    def test_off_of_a_handler(self):
        program = trace("  deed go", "    ask one 1 guess b + 1", "    ask two 1 guess b + 2", "  answer one", "    off two", "    set a b",
                        "  answer two", "    set a 3")
        self.told(program, "go", 0, ((1,), (1, 1, 0)), ((0,), (1,)))
        # The one whose handler this is is none of those that are left.
        program = trace("  deed go", "    ask one 1 guess b + 1", "    ask one 2 guess b + 2", "  answer one", "    off one", "    set a b")
        self.told(program, "go", 0, ((1,), (1, 1, 0)), ((0,), (1,)))

    def test_guesses_of_kept_and_redone_cells_alike(self):
        rows = ["  deed go", "    ask one 3 guess a = 2", "    add a 1", "    ask two 0 guess a + 1"]
        for words in ((), ("  back a redone",)):
            # The refused guess goes from below what was added to it.
            self.told(trace(*rows, words=words), "go", 0, ((3,), (2, 0, 0)), ((0,), (2,), (2,)))

    def test_what_a_handler_writes_is_put_in_the_place_of_its_own_entry(self):
        rows = ["  deed go upto 3", "    ask one it guess a = 1", "    ask two 0 guess a + 1"]
        answer = ["  answer one", "    set a 3", "    add a it"]
        self.told(trace(*rows, *answer), "go", 2, ((2,), (2, 0, 0)), ((2,), (2,), (2,)))
        refused = ["  refused one", "    add a 2"]
        self.told(trace(*rows, *refused), "go", 3, ((3,), (3, 0, 0)), ((2,), (3,), (3,)))

    def test_other_cells_are_written_at_the_end(self):
        program = trace("  deed go", "    ask one 2 guess b = 1", "    ask two 0 guess a = 1", "  answer one", "    add a 2")
        self.told(program, "go", 0, ((2,), (3, 1, 0)), ((1,), (3,), (3,)))

    def test_guesses_of_a_handler_stand_at_the_end(self):
        program = trace("  deed go", "    ask one 2 guess a = 1", "    ask two 0 guess a + 1", "  answer one", "    ask two 1 guess a = 0",
                        "    set a 3")
        self.told(program, "go", 0, ((3,), (0, 0, 0)), ((2,), (0,), (0,), (0,)))

    def test_anew(self):
        program = trace("  deed go", "    set c 2", "    ask one 1 guess a = 3", "    ask two 1 guess b = 3", "    anew", "    add a 1")
        self.told(program, "go", 0, ((2,), (1, 0, 0)), ((1,), (1,), (1,)))
        # What stood there is no place any more; the asks are done nevertheless.
        program = trace("  deed go", "    ask one 2 guess a = 1", "    ask two 0 guess a + 1", "  answer one", "    anew", "    set a 3",
                        "  answer two", "    add a it")
        self.told(program, "go", 0, ((2,), (1, 0, 0)), ((2,), (3,), (1,)))

    def test_take_send_keep_and_forget_count_for_nothing(self):
        rows = ["  deed go", "    ask one 1 guess b + 1", "    forget one", "    ask one 2 guess b + 1", "  answer one", "    set c a",
                "    add a it", "    ask two 1", "  answer two", "    forget two", "    add a asked"]
        wanted = ((0,), (1, 2, 1)), ((0,), (1,), (3,), (0,), (1,))
        self.told(trace(*rows), "go", 0, *wanted)
        for take in ("last", "rising"):
            self.told(trace(*rows, words=(f"  take one {take}", f"  take two {take}")), "go", 0, *wanted)
        for send in ("one", "latest", "queued", "resting"):
            self.told(trace(*rows, words=(f"  send one {send}", f"  send two {send}")), "go", 0, *wanted)
        for keep in ("only", "both"):
            self.told(trace(*rows, words=(f"  keep one {keep}", f"  keep two {keep}")), "go", 0, *wanted)

    def test_none_on_the_way(self):
        program = trace("  deed go", "    set b 1", "    ask one 2", "    ask two 1", "  answer one", "    set b 0", "  answer two",
                        "    add a 1", words=("  unsure b = 1", "  unsure a = 2"))
        self.told(program, "go", 0, ((3,), (1, 0, 0)), (None, (0,), (1,)))
        self.told(program, "go", 0, ((3,), (2, 0, 0)), (None, (1,), None), ((0,), (1, 0, 0)))

    def test_guesses_are_shown_on_the_way(self):
        program = trace("  deed go upto 3", "    ask one it guess a = it", shows="a")
        self.told(program, "go", 3, ((3,), (0, 0, 0)), ((3,), (0,)))
        self.told(program, "go", 2, ((2,), (2, 0, 0)), ((2,), (2,)))

    def test_in_order_counts_for_nothing(self):
        program = made("worths 3", "house", "  in order", "  ask one", "    answer it", "screen", "  cell a 0", "  show a", "  deed go upto 2",
                       "    ask one it", "  answer one", "    add a it")
        self.told(program, "go", 2, ((), (2,)), ((0,), (2,)))

    def test_an_answer_that_is_none(self):
        program = made("worths 3", "house", "  ask one", "screen", "  cell a 1", "  show a", "  deed go", "    ask one 2", "  answer one",
                       "    set a it")
        self.told(program, "go", 0, ((), (0,)), ((1,), (0,)))

    def test_what_is_handed_in_stays(self):
        program = trace("  deed go", "    ask one 1", "  answer one", "    set a it")
        plain = plain_first(program)
        plain_after(program, plain, "go", 0)
        self.assertEqual(plain, ((0,), (0, 0, 0)))
        self.assertEqual(plain_after(program, plain, "go", 0), plain_after(program, plain, "go", 0))

    def test_by_name(self):
        program = trace("  deed go upto 1", "    set a it")
        self.assertEqual(plain_after(program=program, plain=plain_first(program=program), name="go", it=1), (((0,), (1, 0, 0)), ((1,),)))
        self.assertEqual(plain_shown(program=program, plain=((0,), (1, 0, 0))), (1,))

    def test_drawn(self):
        ways = set()
        for seed in range(500):
            draw = random.Random(seed)
            program = drawn_program(seed)
            plain = plain_first(program)
            for step in range(14):
                if step == 7:
                    # A plain stand to which perhaps no deeds lead.
                    plain = tuple(tuple(draw.randrange(program.worths) for _ in part) for part in plain)
                name, upto = draw.choice(program.deeds)
                it = draw.randint(0, upto)
                behind, way = plain_after(program, plain, name, it)
                self.assertEqual((behind, way), second_plain_after(program, plain, name, it), (program.text, plain, name, it))
                self.assertEqual(way[-1], plain_shown(program, behind))
                ways.add(len(way))
                plain = behind
        self.assertGreaterEqual(ways, {1, 2, 3, 4, 5})


class NoDeed(unittest.TestCase):
    PROGRAM = trace("  deed go upto 2", "    set a it", "  deed tap", "    anew")

    def fails(self, name, it):
        with self.assertRaises(NoMove) as caught:
            plain_after(self.PROGRAM, plain_first(self.PROGRAM), name, it)
        self.assertEqual(repr(caught.exception.value), repr((name, it)))
        self.assertIs(type(caught.exception.value), tuple)
        self.assertIs(caught.exception.value[0], name)
        self.assertIs(caught.exception.value[1], it)

    def test_worths(self):
        for it in (-1, 3, 4, 10 ** 17, True, False, None, "0", "1", (0,), [0], {}, ()):
            self.fails("go", it)
        for it in (1, 2, -1, False):
            self.fails("tap", it)

    def test_names(self):
        for name in ("", "gone", "Go", "one", "go ", "over", "deed", ("go",), ["go"], {"go": 0}, None, 0, True):
            self.fails(name, 0)

    def test_any(self):
        for value in ANY:
            self.fails(value, 0)
            if not (value == 0 and type(value) is int) and not (value == 1 and type(value) is int):
                self.fails("go", value)
            self.fails(value, value)


if __name__ == "__main__":
    unittest.main()
