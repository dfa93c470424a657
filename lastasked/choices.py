"""Choices of offered guards, in sequence, and what looks tell of the programs with them."""

from lastasked.courses import Course
from lastasked.errors import BadGuards, BadOffers
from lastasked.guard_texts import program_with
from lastasked.looks import look_called
from lastasked.tables import is_right_table, search
from lastasked.values import is_ascending, is_integer, is_row, is_word

MOST_OFFERS = 5
MOST_PRICE = 9


def check_offers(program, offers):
    """Refuse what is no tuple of guards, each let by itself, and their prices."""
    if not isinstance(offers, tuple) or not 1 <= len(offers) <= MOST_OFFERS:
        raise BadOffers(offers)
    for offer in offers:
        if not is_row(offer, 2) or not is_price(offer[1]) or program_if_let(program, (offer[0],)) is None:
            raise BadOffers(offers)
    guards = [guard for guard, _ in offers]
    if not is_ascending(offers) or not is_ascending(guards):
        raise BadOffers(offers)


def is_price(value):
    """Whether any value is a price of a guard."""
    return is_integer(value) and 1 <= value <= MOST_PRICE


def program_if_let(program, guards):
    """The program with any value that is guards that it can have together; None otherwise."""
    try:
        return program_with(program, guards)
    except BadGuards:
        return None


def choices_of(program, offers):
    """All choices that are let, in their sequence, each as (price, choice, program with it)."""
    found = [(0, ())]
    for guard, price in offers:
        found = found + [(cost + price, choice + (guard,)) for cost, choice in found]
    rows = [(cost, choice, program_if_let(program, choice)) for cost, choice in sorted(found)]
    return [row for row in rows if row[2] is not None]


def look_through(course, many, looks, deeds=None):
    """("right", a table for each look), or ("wrong", the first look that is, story)."""
    tables = []
    for name in looks:
        found = search(look_called(course, name, many, deeds))
        if found[0] == "wrong":
            return "wrong", name, found[1]
        tables.append(found[1])
    return "right", tuple(tables)


def are_right_tables(course, many, looks, tables, deeds=None):
    """Whether any value is a right table for each look."""
    if not is_row(tables, len(looks)):
        return False
    return all([is_right_table(look_called(course, name, many, deeds), table) for name, table in zip(looks, tables)])


def is_wrong_by(course, many, looks, name, story, deeds=None):
    """Whether any values are one of these looks and a story that is wrong by it."""
    return is_word(name, looks) and look_called(course, name, many, deeds).word_of(story) != ""
