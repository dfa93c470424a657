"""What a value is, where any value may be passed."""


def is_integer(value):
    """Whether this is an integer; a bool is none."""
    return isinstance(value, int) and not isinstance(value, bool)


def is_below(value, bound):
    """Whether this is an integer from 0 on that is less than the bound."""
    return is_integer(value) and 0 <= value < bound


def is_word(value, words):
    """Whether this is a string among these."""
    return isinstance(value, str) and value in words


def is_row(value, length):
    """Whether this is a tuple of so many values."""
    return isinstance(value, tuple) and len(value) == length
