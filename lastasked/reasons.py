"""The first of several choices with which all looks are right, and why each one ahead of it is not.

Choices are told in their sequence, each as (price, choice, what the looks look at); looks_of makes of the last part the
looks, each as (name, look).
"""

from lastasked.tables import are_right_tables, is_wrong_by, look_through
from lastasked.values import is_row, is_same


def first_right(word, choices, looks_of):
    """(word, price, choice, tables, reasons), or ("none", reasons)."""
    reasons = []
    for price, choice, thing in choices:
        found = look_through(looks_of(thing))
        if found[0] == "right":
            return word, price, choice, found[1], tuple(reasons)
        reasons.append((choice, found[1], found[2]))
    return "none", tuple(reasons)


def is_first_right(word, choices, looks_of, value):
    """Whether any value is what first_right may tell, with any look in a reason."""
    if is_row(value, 2) and value[0] == "none":
        return are_reasons(choices, looks_of, value[1])
    if not is_row(value, 5) or value[0] != word:
        return False
    _, price, choice, tables, reasons = value
    places = [n for n in range(len(choices)) if is_same((price, choice), choices[n][:2])]
    if len(places) == 0 or not are_reasons(choices[:places[0]], looks_of, reasons):
        return False
    return are_right_tables(looks_of(choices[places[0]][2]), tables)


def are_reasons(choices, looks_of, reasons):
    """Whether any value tells for each of these choices, in sequence, a look and a story by which it is wrong."""
    if not is_row(reasons, len(choices)):
        return False
    for reason, (_, choice, thing) in zip(reasons, choices):
        if not is_row(reason, 3) or not is_same(reason[0], choice):
            return False
        if not is_wrong_by(looks_of(thing), reason[1], reason[2]):
            return False
    return True
