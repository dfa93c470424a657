"""Section 16: stories as texts, and texts as stories."""

import random
import unittest

from lastasked.errors import BadStory, BadText
from lastasked.texts import read_story, show_story
from tests.test_stands import ANY, changed

# Each form of a move with its text.
PAIRS = (
    (("deed", "type", 0), "deed type"), (("deed", "type", 1), "deed type 1"), (("deed", "x", 9), "deed x 9"), (("deed", "abcdefgh", 10), "deed abcdefgh 10"),
    (("deed", "deed", 999), "deed deed 999"), (("deed", "over", 0), "deed over"), (("deed", "sends", 100), "deed sends 100"), (("sends", 0), "sends 0"),
    (("does", 1), "does 1"), (("comes", 12), "comes 12"), (("gone", 999), "gone 999"), (("sends", 10), "sends 10"), (("over",), "over"))
NO_TEXTS = (
    " ", "deed", "deed ", "deed  type", " deed type", "deed type ", "deed type 0", "deed type 00", "deed type 01", "deed type 001", "deed type 1000", "deed type 9999", "deed type -1", "deed type +1",
    "deed type 1.0", "deed type one", "deed type 1 ", "deed type  1", "deed type 1 1", "deed type it", "deed it", "deed asked", "deed it 1", "deed asked 2", "deed abcdefghi", "deed abcdefghi 1", "deed Type",
    "deed type1", "deed ty-pe", "deed 1", "deed 1 1", "deed type,1", "Deed type", "DEED type", "sends", "sends ", "sends  0", " sends 0", "sends 0 ", "sends 00", "sends 01", "sends -1", "sends 1000", "sends a", "sends 0 0",
    "does", "does 1x", "does 007", "comes", "comes 1e2", "comes 0x1", "gone", "gone 1_0", "gone  1", "over ", " over", "over 0", "Over", "overs", "ask find 0", "send 0", "come 0", "does0", "deed\ttype", "type", "0", "('over',)", "deed: type", "-",
    "deed type 1000000000000000000", "does 99999999999999999999")


class Texts(unittest.TestCase):
    def test_each_form(self):
        for move, text in PAIRS:
            self.assertEqual(repr(show_story((move,))), repr(text))
            self.assertEqual(repr(read_story(text)), repr((move,)))
        story = tuple(move for move, _ in PAIRS)
        text = "\n".join(text for _, text in PAIRS)
        self.assertEqual(show_story(story), text)
        self.assertEqual(repr(read_story(text)), repr(story))

    def test_the_empty_story(self):
        self.assertEqual(repr(show_story(())), repr(""))
        self.assertEqual(repr(read_story("")), repr(()))

    def test_all_numbers(self):
        for n in range(1000):
            for move, text in ((("deed", "go", n), f"deed go {n}" if n else "deed go"), (("sends", n), f"sends {n}"), (("does", n), f"does {n}"), (("comes", n), f"comes {n}"), (("gone", n), f"gone {n}")):
                self.assertEqual(show_story((move,)), text)
                self.assertEqual(repr(read_story(text)), repr((move,)))
        for n in (1000, 1001, 9999, 10 ** 17, -1, -999):
            for move in (("deed", "go", n), ("sends", n), ("does", n), ("comes", n), ("gone", n)):
                self.refused(show_story, BadStory, (move,), 1)
            for word in ("deed go", "sends", "does", "comes", "gone"):
                self.refused(read_story, BadText, f"{word} {n}", 1)

    def refused(self, call, error, value, number):
        with self.assertRaises(error) as caught:
            call(value)
        self.assertEqual(repr(caught.exception.line if error is BadText else caught.exception.number), repr(number), value)

    def test_names(self):
        for name in ("a", "z", "it" + "s", "asking", "aask", "i", "asked" + "a", "itit", "abcdefgh", "set", "none", "over"):
            self.assertEqual(show_story((("deed", name, 0),)), f"deed {name}")
            self.assertEqual(read_story(f"deed {name} 3"), (("deed", name, 3),))
        for name in ("", "it", "asked", "abcdefghi", "A", "aB", "a b", "a1", "a_", "a\n", "-", " a", "a "):
            self.refused(show_story, BadStory, (("deed", name, 0),), 1)
            if "\n" not in name:
                self.refused(read_story, BadText, f"deed {name}", 1)
                self.refused(read_story, BadText, f"deed {name} 1", 1)

    def test_what_is_no_text(self):
        for row in NO_TEXTS:
            self.refused(read_story, BadText, row, 1)
            self.refused(read_story, BadText, f"over\n{row}", 2)
            self.refused(read_story, BadText, f"over\nover\n{row}\nover", 3)
            self.refused(read_story, BadText, f"{row}\n{row}", 1)

    def test_rows(self):
        for text, line in (("\n", 1), ("over\n", 2), ("\nover", 1), ("over\n\nover", 2), ("over\n\n", 2), ("deed go\nover\n", 3), ("over\n\n\n", 2), ("over\rover", 1), ("over\r\nover", 1)):
            self.refused(read_story, BadText, text, line)

    def test_no_string(self):
        for value in (None, 0, 1, True, (), ("over",), ["over"], [], {}, {"over": 1}, (("over",),)):
            self.refused(read_story, BadText, value, 0)

    def test_no_tuple(self):
        for value in ("", "over", None, 0, 1, True, [], [("over",)], {}, {("over",): 1}):
            self.refused(show_story, BadStory, value, 0)

    def test_no_moves(self):
        for value in ANY + ("over", ["over"], ("over", 0), ("over", "over"), ("Over",), ("deed",), ("deed", "go"), ["deed", "go", 0], ("deed", "go", True), ("deed", "go", False), ("deed", "go", "0"), ("deed", "go", None),
                            ("deed", ("go",), 0), ("deed", None, 0), ("deed", 0, 0), ("deed", ["go"], 0), ("deed", "go", 0, 0), ("sends",), ("sends", True), ("sends", False), ("sends", "0"), ("sends", (0,)), ["sends", 0],
                            ("sends", 0, 0), ("send", 0), (0, "sends"), (None, 0), (("sends",), 0), ("deed", 0), ("over", "go", 0), ("does", None), ("comes", -1), ("gone", 1000), {"sends": 0}):
            self.refused(show_story, BadStory, (value,), 1)
            self.refused(show_story, BadStory, (("over",), value), 2)
            self.refused(show_story, BadStory, (("over",), ("does", 0), value, value), 3)

    def test_one_thing_otherwise(self):
        story = (("deed", "go", 1), ("does", 0), ("over",))
        for value in changed(story):
            try:
                text = show_story(value)
            except BadStory:
                continue
            self.assertEqual(repr(read_story(text)), repr(value))
            self.assertEqual(text == show_story(story), repr(value) == repr(story))

    def test_both_ways(self):
        draw = random.Random(5)
        for _ in range(300):
            story = []
            for _ in range(draw.randint(0, 12)):
                word = draw.choice(("deed", "sends", "does", "comes", "gone", "over"))
                if word == "deed":
                    name = "".join(draw.choice("abtis") for _ in range(draw.randint(1, 8)))
                    story.append(("deed", "go" if name == "it" else name, draw.choice((0, 1, 2, 10, 999))))
                else:
                    story.append((word,) if word == "over" else (word, draw.choice((0, 1, 9, 10, 99, 100, 999))))
            text = show_story(tuple(story))
            self.assertEqual(repr(read_story(text)), repr(tuple(story)))
            self.assertEqual(show_story(read_story(text)), text)

    def test_drawn_texts(self):
        # Whatever is read is the very text of what is told.
        draw = random.Random(6)
        read = 0
        for _ in range(6000):
            rows = []
            for _ in range(draw.randint(1, 2)):
                rows.append("".join(draw.choice(["deed", "sends", "does", "over", " ", " ", "a", "it", "0", "1", "12", "", "\n"]) for _ in range(draw.randint(1, 5))))
            text = "\n".join(rows)
            try:
                story = read_story(text)
            except BadText as error:
                lines = text.split("\n")
                self.assertTrue(1 <= error.line <= len(lines))
                if error.line > 1:
                    read_story("\n".join(lines[:error.line - 1]))
                continue
            self.assertEqual(show_story(story), text)
            read += 1
        self.assertGreater(read, 100)

    def test_by_name(self):
        self.assertEqual(show_story(story=(("over",),)), "over")
        self.assertEqual(read_story(text="over"), (("over",),))


if __name__ == "__main__":
    unittest.main()
