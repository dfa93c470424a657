"""What the functions ask of their arguments, with the errors that they raise otherwise."""

from lastasked.errors import BadDeeds, BadLooks, BadMany
from lastasked.values import is_ascending, is_below, is_integer, is_row, is_word

MOST_MANY = 4
MOST_LED_DEEDS = 8
MOST_PRICE = 9
LOOKS = ("houses", "moments", "rests")


def check_many(many):
    """Refuse what is no number of asks that may be under way."""
    if not is_integer(many) or not 1 <= many <= MOST_MANY:
        raise BadMany(many)


def check_deeds(program, deeds):
    """Refuse what is neither None nor a tuple of deeds that stories may be led by."""
    if deeds is None:
        return
    if not isinstance(deeds, tuple) or len(deeds) > MOST_LED_DEEDS:
        raise BadDeeds(deeds)
    if not all([is_deed(program, move) for move in deeds]):
        raise BadDeeds(deeds)


def is_deed(program, value):
    """Whether any value is a deed of this program as a move."""
    return is_row(value, 3) and value[0] == "deed" and has_deed(program, value[1], value[2])


def has_deed(program, name, it):
    """Whether the program has a deed of this name, with this worth."""
    return is_word(name, program.hands) and is_below(it, program.hands[name][0] + 1)


def is_price(value):
    """Whether any value is a price."""
    return is_integer(value) and 1 <= value <= MOST_PRICE


def check_looks(looks):
    """Refuse what is no tuple of looks."""
    if not isinstance(looks, tuple) or len(looks) == 0 or not all([is_word(look, LOOKS) for look in looks]):
        raise BadLooks(looks)
    if not is_ascending(looks):
        raise BadLooks(looks)
