"""Section 11: guards, and the program with them."""

import random
import unittest

from lastasked.errors import BadGuards, BadText
from lastasked.guards import with_guards
from lastasked.programs import Program
from tests.helper import FULL, drawn_text, made
from tests.test_stands import ANY, changed

FIND = ("worths 2", "house", "  ask find", "    answer it", "screen", "  cell x 0", "  show x", "  deed type upto 1", "    ask find it",
        "  answer find", "    set x it")
# Lines:      1           2        3          4                  5             6            7            8         9            10
ROWS = ("worths 3", "house", "  cell n 0", "  ask save", "    if it = 1", "      refuse", "    answer n", "  ask load", "  ask find", "screen",
        # 11           12            13             14         15                16                   17                   18
        "  cell v 0", "  cell w 1", "  cell y 2", "  show v", "  unsure w = 2", "  take save rising", "  take find last", "  send load one",
        # 19                20                21                22                  23
        "  send find queued", "  keep save both", "  back w redone", "  deed pick upto 2", "    ask save it guess v = it",
        # 24            25           26            27             28
        "    if v = w", "      ask load v", "    else", "      set v 0", "  deed tap",
        # 29           30               31              32
        "    off save", "  answer save", "    ask load it", "  refused load",
        # 33                                       34        35
        "    ask find asked guess w + 1 guess y = v", "  over", "    ask save w")
PROGRAM = made(*ROWS)
WORDS = {"take": ("last", "rising", "any"), "send": ("one", "latest", "queued", "resting", "many"), "keep": ("only", "both", "none"),
         "back": ("redone", "kept")}


def second_text(text, guards):
    """A plain second writer: the text with guards, None if a name or a line is not there."""
    rows = [(number, row) for number, row in enumerate(text.split("\n"), 1)]
    screen = [number for number, row in rows if row == "screen"][0]
    for guard in guards:
        kind = guard[0]
        if kind in WORDS:
            rows = [(number, row) for number, row in rows if not row.startswith(f"  {kind} {guard[1]} ") or number <= screen]
            if guard[2] != WORDS[kind][-1]:
                rows.append((screen + 0.5, f"  {kind} {guard[1]} {guard[2]}"))
        elif kind == "order":
            rows.append((2.5, "  in order"))
        elif kind in ("off", "forget"):
            deed = [number for number, row in rows if number > screen and row.split(" ")[:4] in (["", "", "deed", guard[1]],)]
            rows.append((deed[0] + (0.5 if kind == "off" else 0.25), f"    {kind} {guard[2]}"))
        elif kind == "guess":
            rows = [(number, f"{row} guess {guard[2]} {guard[3]} {guard[4]}" if number == guard[1] else row) for number, row in rows]
        else:
            rows = [(number, row.partition(" guess ")[0] if number == guard[1] else row) for number, row in rows]
    rows.sort(key=lambda pair: pair[0])
    head = [row for number, row in rows if number <= screen]
    parts = [(number, row) for number, row in rows if number > screen]
    # The lines of a kind stand in the sequence of their names, behind all cells, show and unsure lines.
    asks = [row.split()[1] for row in head if row.startswith("  ask ")]
    cells = [row.split()[1] for _, row in parts if row.startswith("  cell ")]
    chosen = [row for _, row in parts if row[:2] == "  " and row[2] != " " and row.split()[0] in WORDS]
    chosen.sort(key=lambda row: (list(WORDS).index(row.split()[0]), (cells if row.split()[0] == "back" else asks).index(row.split()[1])))
    rest = [row for _, row in parts if row not in chosen]
    first = [n for n, row in enumerate(rest) if row.startswith("  deed ")][0]
    return "\n".join(head + rest[:first] + chosen + rest[first:])


class Told(unittest.TestCase):
    def told(self, program, *guards):
        found = with_guards(program, guards)
        self.assertEqual(found.text, second_text(program.text, guards))
        self.assertEqual(found, Program(found.text))
        self.assertNotEqual(found, program)
        return found

    def fails(self, program, value):
        with self.assertRaises(BadGuards) as caught:
            with_guards(program, value)
        self.assertIs(caught.exception.value, value)

    def row(self, program, guard, line, row):
        """One line of the program with this guard."""
        self.assertEqual(self.told(program, guard).text.split("\n")[line - 1], row)


class Guards(Told):
    def test_none(self):
        self.assertEqual(with_guards(PROGRAM, ()), PROGRAM)

    def test_each_word(self):
        made_of = {"take": 1, "send": 2, "keep": 3}
        for kind, place in made_of.items():
            for ask in PROGRAM.asks:
                for word in WORDS[kind]:
                    if ask[place] == word:
                        self.fails(PROGRAM, ((kind, ask[0], word),))
                    else:
                        found = self.told(PROGRAM, (kind, ask[0], word))
                        wanted = tuple(other[:place] + (word,) + other[place + 1:] if other == ask else other for other in PROGRAM.asks)
                        self.assertEqual(found.asks, wanted)
        for cell in PROGRAM.cells:
            for word in WORDS["back"]:
                if cell[2] == word:
                    self.fails(PROGRAM, (("back", cell[0], word),))
                else:
                    found = self.told(PROGRAM, ("back", cell[0], word))
                    self.assertEqual(found.cells, tuple(other[:2] + (word,) if other == cell else other for other in PROGRAM.cells))

    def test_lines_that_go(self):
        for guard, line in ((("take", "save", "any"), 16), (("take", "find", "any"), 17), (("send", "load", "many"), 18), (("send", "find", "many"), 19),
                            (("keep", "save", "none"), 20), (("back", "w", "kept"), 21)):
            self.assertEqual(self.told(PROGRAM, guard).text, "\n".join(ROWS[:line - 1] + ROWS[line:]))

    def test_lines_in_sequence(self):
        self.row(PROGRAM, ("take", "load", "last"), 17, "  take load last")
        self.row(PROGRAM, ("take", "save", "last"), 16, "  take save last")
        self.row(PROGRAM, ("send", "save", "resting"), 18, "  send save resting")
        self.row(PROGRAM, ("keep", "find", "only"), 21, "  keep find only")
        self.row(PROGRAM, ("back", "v", "redone"), 21, "  back v redone")
        self.row(PROGRAM, ("back", "y", "redone"), 22, "  back y redone")
        program = made(*FIND)
        found = self.told(program, ("back", "x", "redone"), ("keep", "find", "both"), ("send", "find", "one"), ("take", "find", "last"))
        self.assertEqual(found.text.split("\n")[7:11], ["  take find last", "  send find one", "  keep find both", "  back x redone"])

    def test_order(self):
        self.row(PROGRAM, ("order",), 3, "  in order")
        self.assertIs(with_guards(PROGRAM, (("order",),)).in_order, True)
        self.fails(with_guards(PROGRAM, (("order",),)), (("order",),))

    def test_off_and_forget(self):
        self.row(PROGRAM, ("off", "pick", "load"), 23, "    off load")
        self.row(PROGRAM, ("off", "tap", "save"), 29, "    off save")
        self.row(PROGRAM, ("forget", "tap", "find"), 29, "    forget find")
        found = self.told(PROGRAM, ("forget", "pick", "save"), ("forget", "tap", "load"), ("off", "pick", "find"), ("off", "tap", "load"))
        rows = found.text.split("\n")
        self.assertEqual([rows[22:25], rows[30:33]], [["    forget save", "    off find", "    ask save it guess v = it"],
                                                       ["    forget load", "    off load", "    off save"]])

    def test_guesses(self):
        self.row(PROGRAM, ("guess", 23, "y", "+", "v"), 23, "    ask save it guess v = it guess y + v")
        self.row(PROGRAM, ("guess", 25, "v", "=", "0"), 25, "      ask load v guess v = 0")
        self.row(PROGRAM, ("guess", 31, "w", "+", "asked"), 31, "    ask load it guess w + asked")
        self.row(PROGRAM, ("guess", 35, "w", "=", "w"), 35, "    ask save w guess w = w")

    def test_drop(self):
        self.row(PROGRAM, ("drop", 23), 23, "    ask save it")
        self.row(PROGRAM, ("drop", 33), 33, "    ask find asked")
        for line in (25, 31, 35):
            self.fails(PROGRAM, (("drop", line),))

    def test_lines_of_the_text_of_the_program(self):
        # Lines that are put in ahead of these do not count.
        found = self.told(PROGRAM, ("back", "v", "redone"), ("drop", 33), ("forget", "pick", "save"), ("guess", 23, "w", "=", "2"),
                          ("off", "pick", "save"), ("order",), ("take", "load", "last"))
        rows = found.text.split("\n")
        self.assertEqual([rows[2], rows[25:28], rows[37]], ["  in order", ["    forget save", "    off save", "    ask save it guess v = it guess w = 2"],
                                                            "    ask find asked"])

    def test_the_full_table(self):
        program = made(*FULL)
        self.assertEqual(self.told(program, ("back", "w", "redone"), ("keep", "save", "both"), ("send", "find", "many"), ("take", "load", "last")).asks,
                         (("save", "last", "one", "both"), ("load", "last", "latest", "only"), ("find", "rising", "many", "both")))

    def test_by_name(self):
        self.assertEqual(with_guards(program=PROGRAM, guards=(("order",),)), with_guards(PROGRAM, (("order",),)))

    def test_what_is_handed_in_stays(self):
        text = PROGRAM.text
        guards = (("drop", 23), ("order",))
        with_guards(PROGRAM, guards)
        self.assertEqual([PROGRAM.text, PROGRAM.in_order, guards], [text, False, (("drop", 23), ("order",))])
        self.assertEqual(with_guards(PROGRAM, guards), with_guards(PROGRAM, guards))

    def test_drawn(self):
        counts = {}
        for seed in range(150):
            draw = random.Random(seed)
            program = Program(drawn_text(draw))
            for _ in range(6):
                guards = tuple(sorted(set(self.drawn_guard(draw, program) for _ in range(draw.randint(1, 4)))))
                wanted = self.wanted(program, guards)
                counts[wanted is not None] = counts.get(wanted is not None, 0) + 1
                if wanted is None:
                    self.fails(program, guards)
                else:
                    self.assertEqual(with_guards(program, guards).text, wanted)
        self.assertGreater(min(counts.values()), 100)

    def drawn_guard(self, draw, program):
        kind = draw.choice(["take", "send", "keep", "back", "order", "off", "forget", "guess", "drop"])
        if kind in WORDS:
            return kind, draw.choice(program.cells if kind == "back" else program.asks)[0], draw.choice(WORDS[kind])
        if kind == "order":
            return (kind,)
        if kind in ("off", "forget"):
            return kind, draw.choice(program.deeds)[0], draw.choice(program.asks)[0]
        rows = program.text.split("\n")
        lines = [n for n, row in enumerate(rows, 1) if n > rows.index("screen") and row.split()[0] == "ask"] or [1]
        if kind == "drop":
            return kind, draw.choice(lines)
        return kind, draw.choice(lines), draw.choice(program.cells)[0], draw.choice("=+"), draw.choice(["0", "1", "it", "asked", program.cells[0][0]])

    def wanted(self, program, guards):
        """The text, None if these guards are not let."""
        heads = [guard[:2] for guard in guards]
        if len(heads) != len(set(heads)) or any(("drop", guard[1]) in guards for guard in guards if guard[0] == "guess"):
            return None
        rows = program.text.split("\n")
        for guard in guards:
            if guard[0] in ("guess", "drop") and rows[guard[1] - 1].split()[0] != "ask":
                return None
            if second_text(program.text, (guard,)) == program.text:
                return None
        text = second_text(program.text, guards)
        try:
            Program(text)
        except BadText:
            return None
        return text


class Bad(Told):
    def test_not_ascending(self):
        self.fails(PROGRAM, (("order",), ("drop", 23)))
        self.fails(PROGRAM, (("order",), ("order",)))
        self.fails(PROGRAM, (("guess", 25, "v", "=", "0"), ("guess", 23, "y", "=", "0")))
        self.fails(PROGRAM, (("take", "save", "last"), ("take", "load", "last")))
        self.fails(PROGRAM, [("drop", 23), ("order",)])
        self.assertEqual(len(self.told(PROGRAM, ("drop", 23), ("order",)).text.split("\n")), 36)

    def test_the_same_first_two_parts(self):
        self.fails(PROGRAM, (("take", "load", "last"), ("take", "load", "rising")))
        self.fails(PROGRAM, (("send", "save", "latest"), ("send", "save", "one")))
        self.fails(PROGRAM, (("off", "pick", "load"), ("off", "pick", "save")))
        self.fails(PROGRAM, (("forget", "tap", "find"), ("forget", "tap", "load")))
        self.fails(PROGRAM, (("guess", 25, "v", "=", "0"), ("guess", 25, "w", "=", "0")))
        self.told(PROGRAM, ("forget", "pick", "load"), ("off", "pick", "load"))
        self.told(PROGRAM, ("off", "pick", "load"), ("off", "tap", "load"))
        self.told(PROGRAM, ("guess", 25, "v", "=", "0"), ("guess", 31, "v", "=", "0"))

    def test_drop_and_guess_for_one_line(self):
        self.fails(PROGRAM, (("drop", 23), ("guess", 23, "y", "=", "0")))
        self.told(PROGRAM, ("drop", 23), ("guess", 25, "y", "=", "0"))
        self.told(PROGRAM, ("drop", 33), ("guess", 23, "y", "=", "0"))

    def test_no_program(self):
        # A third guess, a second one of a cell, what cannot be read there, a ninth statement.
        self.fails(PROGRAM, (("guess", 33, "v", "=", "0"),))
        self.fails(PROGRAM, (("guess", 23, "v", "+", "0"),))
        self.fails(PROGRAM, (("guess", 35, "v", "=", "it"),))
        self.fails(PROGRAM, (("guess", 25, "v", "=", "asked"),))
        self.fails(PROGRAM, (("guess", 25, "v", "=", "3"),))
        self.fails(PROGRAM, (("guess", 25, "v", "=", "n"),))
        full = made(*FIND[:8], *["    set x it"] * 7, *FIND[9:])
        self.told(full, ("off", "type", "find"))
        self.told(full, ("forget", "type", "find"))
        self.fails(full, (("forget", "type", "find"), ("off", "type", "find")))
        full = made(*FIND[:8], *["    set x it"] * 8, *FIND[9:])
        self.fails(full, (("off", "type", "find"),))

    def test_changes_nothing_by_itself(self):
        for guard in (("take", "save", "rising"), ("take", "load", "any"), ("send", "load", "one"), ("send", "save", "many"), ("keep", "save", "both"),
                      ("keep", "load", "none"), ("back", "w", "redone"), ("back", "v", "kept"), ("drop", 25)):
            self.fails(PROGRAM, (guard,))
            self.fails(PROGRAM, tuple(sorted((guard, ("order",)))))

    def test_no_ask_statement(self):
        for line in list(range(-2, 23)) + [24, 26, 27, 28, 29, 30, 32, 34, 36, 100, 10 ** 17]:
            self.fails(PROGRAM, (("drop", line),))
            self.fails(PROGRAM, (("guess", line, "y", "=", "0"),))
        for line in (True, False, None, "23", (23,), [23], {23: 23}):
            self.fails(PROGRAM, (("drop", line),))
            self.fails(PROGRAM, (("guess", line, "y", "=", "0"),))

    def test_names_and_words(self):
        for guard in (("take", "n", "last"), ("take", "v", "last"), ("take", "save", "one"), ("take", "save", "kept"), ("take", "save", ""), ("send", "save", "any"),
                      ("keep", "save", "last"), ("back", "n", "redone"), ("back", "save", "redone"), ("back", "v", "any"), ("back", "v", "none"),
                      ("off", "save", "save"), ("off", "pick", "pick"), ("off", "over", "save"), ("forget", "answer", "save"), ("forget", "pick", "v"),
                      ("guess", 25, "n", "=", "0"), ("guess", 25, "save", "=", "0"), ("guess", 25, "v", "-", "0"), ("guess", 25, "v", "set", "0"),
                      ("guess", 25, "v", "=", 0), ("guess", 25, "v", "=", ""), ("guess", 25, "v", "=", "0 "), ("guess", 25, "v", "=", " 0"),
                      ("guess", 25, "v", "=", "00"), ("guess", 25, "v", "=", "-1"), ("guess", 25, "v", "=", "0 guess w = 0"),
                      ("guess", 25, "v", "=", "0\n      set v 1"), ("guess", 25, "v", "=", "\n"), ("guess", 25, "v", "=", None), ("guess", 25, "v =", "=", "0"),
                      ("over", "save"), ("order", ""), ("order", "in"), ("Take", "load", "last"), ("take", "load"), ("take", "load", "last", ""),
                      ("drop",), ("drop", 23, 0), ("off", "pick"), ("set", "v", "0"), ("take load last",), (), ("",), ("show", "v"), ("unsure", "v", "0")):
            self.fails(PROGRAM, (guard,))
            self.fails(PROGRAM, (guard, ("order",)))
            self.fails(PROGRAM, (list(guard),))

    def test_any(self):
        for value in ANY:
            if value != () or type(value) is not tuple:
                self.fails(PROGRAM, value)
            self.fails(PROGRAM, (value,))
            self.fails(PROGRAM, (("order",), value))
            for guard in (("take", value, "last"), ("take", "load", value), (value, "load", "last"), ("guess", 25, value, "=", "0"),
                          ("guess", 25, "v", value, "0"), ("guess", 25, "v", "=", value), ("off", value, "save"), ("off", "pick", value), ("drop", value)):
                self.fails(PROGRAM, (guard,))

    def test_one_thing_otherwise(self):
        guards = (("back", "v", "redone"), ("drop", 33), ("forget", "pick", "save"), ("guess", 23, "w", "=", "2"), ("order",), ("take", "load", "last"))
        for value in changed(guards):
            try:
                found = with_guards(PROGRAM, value)
            except BadGuards as error:
                self.assertIs(error.value, value)
            else:
                self.assertEqual(found.text, second_text(PROGRAM.text, value))
                self.assertEqual([type(value), list(value)], [tuple, sorted(set(value))])


if __name__ == "__main__":
    unittest.main()
