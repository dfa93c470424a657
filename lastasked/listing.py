"""What stands at the lines of a program's text. Lines are told from 1."""

CHOICE_WORDS = ("take", "send", "keep", "back")


class Listing:
    """The lines of the text of a program.

    rows: the lines; row_words: the words of each; depths: how deep each stands; house, screen: the lines of these.
    """

    def __init__(self, text):
        self.rows = text.split("\n")
        self.row_words = [row.strip().split(" ") for row in self.rows]
        self.depths = [(len(row) - len(row.lstrip())) // 2 for row in self.rows]
        self.house = self.rows.index("house") + 1
        self.screen = self.rows.index("screen") + 1

    def numbers(self):
        """The numbers of all lines."""
        return list(range(1, len(self.rows) + 1))

    def words_at(self, line):
        """The words of a line."""
        return self.row_words[line - 1]

    def is_statement(self, line, word):
        """Whether a statement of the screen that begins with this word stands at this line."""
        return self.stands_below(line) and self.depths[line - 1] > 1 and self.words_at(line)[0] == word

    def is_part(self, line, words):
        """Whether a line of the screen itself that begins with one of these words stands at this line."""
        return self.stands_below(line) and self.depths[line - 1] == 1 and self.words_at(line)[0] in words

    def stands_below(self, line):
        """Whether this line belongs to the screen."""
        return self.screen < line <= len(self.rows)
