"""Section 10: how long a wrong picture can stand."""

import random
import unittest
from unittest import mock

from lastasked.errors import BadMany, TooMany
from lastasked.lasting import lasting, shows_lasting
from lastasked.plain import plain_first, plain_shown
from lastasked.stands import first_stand, shown
from tests.helper import comes, deed, does, made
from tests.searches import FIND, is_pair, is_story, lean_programs, pairs_of, second_led, steps_from
from tests.test_ever import BOX, ONE
from tests.test_moments import LAST, RISING
from tests.test_rests import HOUSE, WIDE, WIDE_DEEDS
from tests.test_stands import ANY, changed


def is_astray(program, pair):
    return shown(program, pair[0]) not in (None, plain_shown(program, pair[1]))


def are_alike(program, pair, other):
    return is_astray(program, pair) and is_astray(program, other) and shown(program, pair[0]) == shown(program, other[0])


def second_lasting(program, many, hands):
    """{pair: least height}, or "endless": heights grow round by round as long as a link asks for it."""
    pairs = pairs_of(program, many)
    links = {}
    for pair in pairs:
        links[pair] = []
        for move, stand, plain, _, _ in steps_from(program, many, *pair):
            if are_alike(program, pair, (stand, plain)) if hands else move[0] != "deed":
                links[pair].append((move[0] == "comes", (stand, plain)))
    heights = {pair: 0 if is_astray(program, pair) else -1 for pair in pairs}
    grows = True
    while grows:
        grows = False
        for pair in pairs:
            for result, behind in links[pair]:
                if heights[behind] >= 0 and heights[pair] < heights[behind] + result:
                    heights[pair] = heights[behind] + result
                    grows = True
        if max(heights.values()) > len(pairs):
            return "endless"
    return heights


def results_at_end(program, story, hands):
    """How many results are among the last moves of a story; None if it does not end astray."""
    pairs = [step[:2] for step in second_led(program, story)]
    if not is_astray(program, pairs[-1]):
        return None
    count = 0
    for n in range(len(story) - 1, -1, -1):
        if not are_alike(program, pairs[n], pairs[-1]) if hands else story[n][0] == "deed":
            break
        count += story[n][0] == "comes"
    return count


def is_ring(program, many, story, ring):
    if not is_story(program, many, story) or type(ring) is not tuple or not is_story(program, many, story + ring):
        return False
    pairs = [step[:2] for step in second_led(program, story + ring)][len(story):]
    if repr(pairs[0]) != repr(pairs[-1]) or "comes" not in [move[0] for move in ring]:
        return False
    return all(are_alike(program, pairs[0], pair) for pair in pairs)


def judge(program, many, value, hands=True):
    """A plain second judge."""
    if type(value) is not tuple or value == () or type(value[0]) is not str:
        return False
    if value[0] == "endless":
        return hands and len(value) == 3 and is_ring(program, many, value[1], value[2])
    if len(value) != 4 or value[0] != "most" or type(value[1]) is not int or value[1] < -1:
        return False
    if value[1] == -1:
        if repr(value[2]) != "()":
            return False
    elif not is_story(program, many, value[2]) or results_at_end(program, value[2], hands) != value[1]:
        return False
    return are_heights(program, many, value[1], value[3], hands)


def are_heights(program, many, number, table, hands):
    if type(table) is not tuple:
        return False
    for row in table:
        if type(row) is not tuple or len(row) != 3 or not is_pair(program, *row[:2]):
            return False
        if type(row[2]) is not int or not -1 <= row[2] <= number:
            return False
    heights = {row[:2]: row[2] for row in table}
    if list(table) != sorted(table) or len(heights) != len(table) or (first_stand(program), plain_first(program)) not in heights:
        return False
    for pair in heights:
        least = 0 if is_astray(program, pair) else -1
        for move, stand, plain, _, _ in steps_from(program, many, *pair):
            if (stand, plain) not in heights:
                return False
            if are_alike(program, pair, (stand, plain)) if hands else move[0] != "deed" and heights[stand, plain] >= 0:
                least = max(least, heights[stand, plain] + (move[0] == "comes"))
        if heights[pair] < least:
            return False
    return True


class Told(unittest.TestCase):
    def told(self, program, many, hands=True):
        found = lasting(program, many, hands=hands)
        wanted = second_lasting(program, many, hands)
        self.assertEqual(found[0], "endless" if wanted == "endless" else "most", program.text)
        self.assertTrue(judge(program, many, found, hands))
        self.assertIs(shows_lasting(program, many, found, hands=hands), True)
        if found[0] == "most":
            self.assertEqual(repr(found[3]), repr(tuple(sorted(pair + (height,) for pair, height in wanted.items()))))
            self.assertEqual(found[1], max(wanted.values()))
        return found

    def shows(self, wanted, program, many, value, hands=True):
        self.assertIs(shows_lasting(program, many, value, hands=hands), wanted, value)
        self.assertIs(judge(program, many, value, hands), wanted, value)


class Lasting(Told):
    def test_nothing_is_astray(self):
        for program in (HOUSE, made(*BOX[:7], "  deed type", "    add x 1")):
            for hands in (True, False):
                found = self.told(program, 2, hands)
                self.assertEqual(found[:3], ("most", -1, ()))
                self.assertEqual({row[2] for row in found[3]}, {-1})

    def test_astray_without_results(self):
        # The wrong picture is gone with the one answer.
        for hands in (True, False):
            self.assertEqual(self.told(made(*FIND), 1, hands)[:2], ("most", 0))

    def test_find(self):
        # 0 is asked for, then 1: the answer 0 comes while 0 stands. Without hands both come, the newer one first.
        self.assertEqual(self.told(made(*FIND), 2)[:2], ("most", 1))
        self.assertEqual(self.told(made(*FIND), 2, False)[:2], ("most", 2))

    def test_without_hands_a_result_on_the_way_counts_whatever_is_shown(self):
        # Two answers come behind the last deed, with another picture between them, ahead of the astray moment.
        program = made("worths 4", "house", "  ask find", "    answer it", "screen", "  cell x 0", "  cell y 0", "  show x", "  deed go",
                       "    if y = 0", "      ask find 1", "      ask find 2", "    set y 1", "  answer find", "    add x it", "    add x it")
        found = self.told(program, 2, False)
        self.assertEqual(found[1], 1)
        self.assertEqual([move[0] for move in found[2]].count("comes"), 1)

    def test_with_hands_only_what_shows_the_same(self):
        program = made("worths 4", "house", "  ask find", "    answer it", "screen", "  cell x 0", "  cell y 0", "  show x", "  deed go",
                       "    if y = 0", "      ask find 0", "      ask find 2", "    set y 1", "  answer find", "    add x it")
        self.assertEqual(self.told(program, 2)[1], 1)
        self.assertEqual(self.told(program, 2, False)[1], 1)

    def test_none_is_not_astray(self):
        rows = ("worths 2", "house", "  ask find", "    answer it", "screen", "  cell x 0", "  cell y 0", "  show x")
        deeds = ("  deed go", "    set y 1", "    ask find 1", "  answer find", "    set x it", "    set y 0")
        for hands in (True, False):
            self.assertEqual(self.told(made(*rows, *deeds), 1, hands)[1], 0)
            self.assertEqual(self.told(made(*rows, "  unsure y = 1", *deeds), 1, hands)[1], -1)
        # But where the plain meaning alone is unsure, it is.
        program = made(*rows, "  unsure y = 1", "  deed go", "    ask find 1", "  answer find", "    set y it")
        for hands in (True, False):
            self.assertEqual(self.told(program, 1, hands)[1], 0)

    def test_endless(self):
        self.assertEqual(self.told(made(*LAST), 1)[:2], ("most", 0))
        self.assertEqual(len(self.told(made(*LAST), 2)), 3)
        self.assertEqual(self.told(made(*LAST), 2)[0], "endless")
        self.assertEqual(self.told(made(*LAST), 2, False)[:2], ("most", 1))

    def test_a_ring_without_results_is_none(self):
        # Hands can turn for ever while a wrong picture stands, but one answer alone comes.
        program = made("worths 2", "house", "  ask find", "    answer it", "screen", "  cell x 0", "  cell y 0", "  show x", "  send find one",
                       "  deed go", "    if x = 0", "      ask find 1", "  deed turn", "    add y 1", "  answer find", "    set x it")
        found = self.told(program, 1)
        self.assertEqual(found[:2], ("most", 0))

    def test_a_long_way(self):
        # Passed answers come one by one while hands go on, and no more than three times.
        program = made("worths 4", "house", "  ask find", "    answer it", "screen", "  cell x 0", "  cell k 0", "  show x", "  take find last",
                       "  deed go", "    if k = 3", "      set k 3", "    else", "      add k 1", "      ask find k", "  answer find", "    set x it")
        self.assertEqual(self.told(program, 2)[:2], ("most", 2))
        self.assertEqual(self.told(program, 3, False)[:2], ("most", 2))

    def test_refused_and_passed_ones_are_results_too(self):
        program = made("worths 3", "house", "  ask find", "    if it = 2", "      refuse", "    answer it", "  ask more", "    refuse", "screen", "  cell x 0",
                       "  cell k 0", "  show x", "  deed go", "    if k = 0", "      ask more 0", "      ask find 1", "    set k 1", "  answer find", "    set x it")
        self.assertEqual(self.told(program, 2)[1], 1)
        self.assertEqual(self.told(program, 2, False)[1], 1)

    def test_drawn(self):
        words = {}
        for seed, program in lean_programs(range(900, 1010)):
            many = seed % 2 + 1
            if len(pairs_of(program, many, 150)) <= 150:
                for hands in (True, False):
                    found = self.told(program, many, hands)
                    number = found[1] if found[0] == "most" else "endless"
                    words[hands, number] = words.get((hands, number), 0) + 1
        for key in ((True, -1), (True, 0), (True, 1), (True, "endless"), (False, -1), (False, 0), (False, 1), (False, 2)):
            self.assertGreater(words[key], 0, words)

    def test_too_many(self):
        program = made(*WIDE, "  show a", *WIDE_DEEDS)
        for hands in (True, False):
            with self.assertRaises(TooMany) as caught:
                lasting(program, 2, hands=hands)
            self.assertEqual(repr(caught.exception.number), "6000")
            self.assertEqual(len(lasting(program, 1, hands=hands)[3]), 256 * 9)
            self.assertIs(shows_lasting(program, 2, ("most", -1, (), ()), hands=hands), False)

    def test_if_more_come_at_all(self):
        # A ring is there early, but all pairs count.
        for rows, many in ((LAST, 2), (FIND, 2)):
            pairs = len(pairs_of(made(*rows), many))
            for hands in (True, False):
                with mock.patch("lastasked.tables.MOST_MEMBERS", pairs):
                    found = lasting(made(*rows), many, hands=hands)
                with mock.patch("lastasked.tables.MOST_MEMBERS", pairs - 1):
                    with self.assertRaises(TooMany):
                        lasting(made(*rows), many, hands=hands)
                    self.assertIs(shows_lasting(made(*rows), many, found, hands=hands), True)

    def test_many(self):
        for value in (0, 5, True, None, "1", (1,), [1]):
            for call in (lambda: lasting(HOUSE, value), lambda: lasting(HOUSE, value, hands=False), lambda: shows_lasting(HOUSE, value, None)):
                with self.assertRaises(BadMany) as caught:
                    call()
                self.assertIs(caught.exception.value, value)

    def test_by_name(self):
        program = made(*BOX)
        self.assertEqual(lasting(program=program, many=1, hands=True), lasting(program, 1))
        self.assertIs(shows_lasting(program=program, many=1, value=lasting(program, 1), hands=True), True)
        with self.assertRaises(TypeError):
            lasting(program, 1, False)


class Shows(Told):
    def test_other_stories(self):
        program = made(*ONE)
        for hands in (True, False):
            _, number, story, heights = lasting(program, 1, hands=hands)
            self.assertEqual(number, 0)
            turn = (deed("type"), does(0), comes(0))
            for other in (story, (deed("type"),), (deed("type"), does(0))):
                self.shows(True, program, 1, ("most", number, other, heights), hands)
            for other in ((), turn, story[:-1], turn[1:], story + (None,), list(story)):
                self.shows(judge(program, 1, ("most", number, other, heights), hands), program, 1, ("most", number, other, heights), hands)
        program = made(*FIND)
        for hands in (True, False):
            _, number, story, heights = lasting(program, 2, hands=hands)
            turn = (deed("type", 1), does(0), comes(0), deed("type", 0), does(0), comes(0))
            self.shows(True, program, 2, ("most", number, turn + story, heights), hands)
            self.shows(False, program, 2, ("most", number, story + turn[2:], heights), hands)
            self.shows(False, program, 2, ("most", number - 1, story, heights), hands)
            self.shows(False, program, 2, ("most", number + 1, story, heights), hands)

    def test_greater_heights(self):
        program = made(*FIND)
        for hands in (True, False):
            _, number, story, heights = lasting(program, 2, hands=hands)
            greatest = tuple(row[:2] + (number,) for row in heights)
            # With hands pairs that are not astray may have any height; an equal one fits where no result leads on.
            for n in range(0, len(heights), 17):
                for height in range(-2, number + 2):
                    value = "most", number, story, heights[:n] + (heights[n][:2] + (height,),) + heights[n + 1:]
                    self.shows(judge(program, 2, value, hands), program, 2, value, hands)
            self.shows(False, program, 2, ("most", number, story, greatest), hands)
            astray = tuple(row[:2] + (row[2] if row[2] >= 0 else number,) for row in heights)
            self.shows(hands, program, 2, ("most", number, story, astray), hands)

    def test_pairs(self):
        program = made(*FIND)
        for hands in (True, False):
            _, number, story, heights = lasting(program, 2, hands=hands)
            for n in range(0, len(heights), 9):
                self.shows(False, program, 2, ("most", number, story, heights[:n] + heights[n + 1:]), hands)
                self.shows(False, program, 2, ("most", number, story, heights[:n] + heights[n:n + 1] + heights[n:]), hands)
                more = heights[:n] + (heights[n][:2] + (heights[n][2] + 1,),) + heights[n:]
                self.shows(False, program, 2, ("most", number + 1, story, tuple(sorted(more))), hands)
                # With hands each of both heights fits, as long as the pair is not astray.
                more = heights[:n] + tuple(heights[n][:2] + (height,) for height in range(heights[n][2], number + 1)) + heights[n + 1:]
                self.shows(len(more) == len(heights), program, 2, ("most", number, story, more), hands)
            self.shows(False, program, 2, ("most", number, story, heights[::-1]), hands)
            self.shows(False, program, 2, ("most", number, story, list(heights)), hands)
            self.shows(False, program, 2, ("most", number, story, ()), hands)

    def test_more_pairs_that_are_closed(self):
        program = made(*ONE)
        _, number, story, heights = lasting(program, 1, hands=False)
        rest = ((), (2,), (), ())
        for plain in (((), (1,)), ((), (2,))):
            # An astray rest to which no moves lead: from it the deed leads to pairs that are to be there, too.
            self.shows(False, program, 1, ("most", number, story, tuple(sorted(heights + ((rest, plain, 0),)))), False)
        more = dict((row[:2], row[2]) for row in heights)
        left = [(rest, ((), (1,)))]
        while left:
            pair = left.pop()
            if pair not in more:
                more[pair] = 0
                left.extend(step[1:3] for step in steps_from(program, 1, *pair))
        for hands in (True, False):
            value = "most", number, story, tuple(sorted(pair + (height,) for pair, height in more.items()))
            self.shows(judge(program, 1, value, hands), program, 1, value, hands)

    def test_rings(self):
        program = made(*LAST)
        ring = (deed("type", 1), does(0), comes(0))
        lead = (deed("type", 1),)
        self.shows(True, program, 2, ("endless", lead, ring))
        self.shows(True, program, 2, ("endless", lead, ring + ring))
        self.shows(True, program, 2, ("endless", lead + ring, ring))
        self.shows(True, program, 2, ("endless", (deed("type", 2), does(0), comes(0)) + lead, ring))
        self.shows(False, program, 2, ("endless", lead, ring), False)
        self.shows(False, program, 1, ("endless", lead, ring))
        for value in (("endless", lead, ()), ("endless", (), ring), ("endless", lead, ring[:2]), ("endless", lead, ring[:1]),
                      ("endless", lead, (does(0), comes(0))), ("endless", lead, (deed("type", 2),) + ring[1:]), ("endless", lead, list(ring)),
                      ("endless", list(lead), ring), ("endless", lead), ("endless", lead, ring, ()), ("most", lead, ring), ["endless", lead, ring],
                      # Up to date between, though it comes back.
                      ("endless", lead, (deed("type", 0), does(0), does(1), comes(0), comes(0), deed("type", 1)))):
            self.shows(False, program, 2, value)

    def test_a_ring_with_another_picture(self):
        # The screen shows 1 between, and is astray all the while.
        program = made("worths 4", "house", "  ask find", "    answer it", "screen", "  cell x 0", "  cell y 3", "  show x", "  deed type upto 1",
                       "    ask find it", "    set y 2", "  deed mend", "    set x x", "  answer find", "    if y = 2", "      set x it", "    else", "      set x 3")
        lead = (deed("type", 1), deed("type", 0))
        for ring in ((does(0), comes(0), deed("type", 1)), (does(0), does(1), comes(1), deed("type", 0), comes(0), deed("type", 0))):
            value = "endless", lead, ring
            self.shows(judge(program, 3, value), program, 3, value)

    def test_a_ring_without_results(self):
        program = made("worths 2", "house", "  ask find", "    answer it", "screen", "  cell x 0", "  cell y 0", "  show x", "  deed go",
                       "    ask find 1", "  deed turn", "    add y 1", "  answer find", "    set x it")
        self.shows(False, program, 1, ("endless", (deed("go"),), (deed("turn"), deed("turn"))))

    def test_a_ring_that_is_not_astray(self):
        program = made(*BOX)
        self.shows(False, program, 1, ("endless", (deed("type"),), (does(0), comes(0), deed("type"))))

    def test_one_thing_otherwise(self):
        for rows, many in ((ONE, 1), (RISING, 1)):
            for hands in (True, False):
                found = lasting(made(*rows), many, hands=hands)
                others = [value for value in changed(found) if repr(value) != repr(found)]
                for value in random.Random(len(others)).sample(others, 700):
                    self.shows(judge(made(*rows), many, value, hands), made(*rows), many, value, hands)
        found = lasting(made(*LAST), 2)
        for value in list(changed(found))[::3]:
            self.shows(judge(made(*LAST), 2, value), made(*LAST), 2, value)

    def test_any(self):
        program = made(*BOX)
        for value in ANY:
            for told in (value, ("most", value), ("most", value, (), ()), ("most", 0, value, ()), ("most", -1, (), value), ("most", -1, (), (value,)),
                         ("endless", value, value), ("endless", (deed("type"),), value), ("most", -1, (), ((value, value, value),))):
                for hands in (True, False):
                    self.shows(False, program, 1, told, hands)
        found = lasting(HOUSE, 1)
        for number in (True, False, -2, "-1", None, (-1,)):
            self.shows(False, HOUSE, 1, found[:1] + (number,) + found[2:])
        for story in ([], None, (deed("flip", 0),), 0, ""):
            self.shows(False, HOUSE, 1, found[:2] + (story,) + found[3:])


if __name__ == "__main__":
    unittest.main()
