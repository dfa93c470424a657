"""Choices of what has a price, in sequence."""

from lastasked.checks import is_price
from lastasked.errors import BadGuards, BadOffers
from lastasked.guard_texts import program_with
from lastasked.values import is_ascending, is_row

MOST_OFFERS = 5


def check_offers(program, offers):
    """Refuse what is no tuple of guards, each let by itself, and their prices."""
    if not isinstance(offers, tuple) or not 1 <= len(offers) <= MOST_OFFERS:
        raise BadOffers(offers)
    for offer in offers:
        if not is_row(offer, 2) or not is_price(offer[1]) or program_if_let(program, (offer[0],)) is None:
            raise BadOffers(offers)
    guards = [guard for guard, _ in offers]
    if not is_ascending(offers) or not is_ascending(guards):
        raise BadOffers(offers)


def program_if_let(program, guards):
    """The program with any value that is guards that it can have together; None otherwise."""
    try:
        return program_with(program, guards)
    except BadGuards:
        return None


def choices_of(program, offers):
    """All choices of guards that are let, in their sequence, each as (price, choice, program with it)."""
    rows = [(price, choice, program_if_let(program, choice)) for price, choice in priced_choices(offers)]
    return [row for row in rows if row[2] is not None]


def priced_choices(priced):
    """All choices of these (thing, price), each as (price, choice), in their sequence: by price, then as tuples."""
    found = [(0, ())]
    for thing, price in priced:
        found = found + [(cost + price, choice + (thing,)) for cost, choice in found]
    return sorted(found)
