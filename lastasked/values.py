"""What a value is, where any value may be passed."""


def is_integer(value):
    """Whether this is an integer; a bool is none."""
    return isinstance(value, int) and not isinstance(value, bool)


def is_below(value, bound):
    """Whether this is an integer from 0 on that is less than the bound."""
    return is_integer(value) and 0 <= value < bound


def is_word(value, words):
    """Whether this is a string among these."""
    return isinstance(value, str) and value in words


def is_row(value, length):
    """Whether this is a tuple of so many values."""
    return isinstance(value, tuple) and len(value) == length


def is_ascending(values):
    """Whether these, which can be compared, are sorted and without duplicates."""
    return all([values[n - 1] < values[n] for n in range(1, len(values))])


def is_same(value, told):
    """Whether any value is this one, of tuples, strings, integers, bools and None; no bool is an integer."""
    if isinstance(told, tuple):
        return is_row(value, len(told)) and all([is_same(part, other) for part, other in zip(value, told)])
    if isinstance(value, tuple) or isinstance(value, bool) != isinstance(told, bool):
        return False
    return value == told
