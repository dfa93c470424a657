"""The lines of a text, read one behind the other."""

from lastasked.errors import BadText

LETTERS = "abcdefghijklmnopqrstuvwxyz"
DIGITS = "0123456789"


class Lines:
    """The lines of a text and the place of the one that is read next."""

    def __init__(self, text):
        self.rows = text.split("\n")
        self.at = 0

    def words(self, depth):
        """The words of the next line; none if it stands less or more deep, or is spaced otherwise."""
        if self.at == len(self.rows):
            return []
        lead = "  " * depth
        row = self.rows[self.at]
        if not row.startswith(lead):
            return []
        words = row[len(lead):].split(" ")
        return [] if "" in words else words

    def begins(self, depth, word):
        """Whether the next line stands this deep and begins with this word."""
        return self.words(depth)[:1] == [word]

    def step(self):
        """Go on to the line behind the next one."""
        self.at += 1

    def need(self, holds):
        """Refuse the next line if this does not hold."""
        if not holds:
            raise BadText(self.at + 1)


def is_name(word):
    """Whether a cell, an ask or a deed may be called so."""
    if not 1 <= len(word) <= 8 or word in ("it", "asked"):
        return False
    return all([letter in LETTERS for letter in word])


def read_worth(lines, word, worths):
    """The worth that this word of the next line tells."""
    lines.need(len(word) == 1 and word in DIGITS[:worths])
    return int(word)


def read_new_name(lines, word, taken):
    """A name that this word of the next line gives, and that is not taken yet."""
    lines.need(is_name(word) and word not in taken)
    return word
