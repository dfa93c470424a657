"""Exchanges of programs: at which moments a newer one may come in."""

from lastasked.checks import check_looks, check_many, is_price
from lastasked.choices import priced_choices
from lastasked.errors import BadBars, BadPrices, BadPrograms, Unfit
from lastasked.looks import looks_called
from lastasked.overs import do_suit
from lastasked.passages import Passage
from lastasked.programs import Program
from lastasked.reasons import first_right, is_first_right
from lastasked.tables import are_right_tables, is_wrong_by, look_through
from lastasked.values import is_ascending, is_row, is_word


def changing(programs, many, looks, *, bars=()):
    """("let", a table for each look), or ("wrong", look, story)."""
    check_changing(programs, many, looks)
    check_bars(programs, bars)
    passage = fit_passage(programs, many, looks)
    found = look_through(passage.looks_called(looks, many, bars))
    return ("let", found[1]) if found[0] == "right" else found


def shows_changing(programs, many, looks, value, *, bars=()):
    """Whether any value is such a result, right by itself."""
    check_changing(programs, many, looks)
    check_bars(programs, bars)
    named = Passage(programs).looks_called(looks, many, bars)
    if is_row(value, 3) and value[0] == "wrong":
        return is_wrong_by(named, value[1], value[2])
    return is_row(value, 2) and value[0] == "let" and are_right_tables(named, value[1])


def barred(programs, many, looks, prices):
    """("bars", price, bars, tables, reasons) of the cheapest bars, or ("none", reasons)."""
    check_changing(programs, many, looks)
    check_prices(programs, prices)
    passage = fit_passage(programs, many, looks)
    return first_right("bars", choices_of_bars(programs, prices), lambda bars: passage.looks_called(looks, many, bars))


def shows_barred(programs, many, looks, prices, value):
    """Whether any value is such a result, right by itself."""
    check_changing(programs, many, looks)
    check_prices(programs, prices)
    passage = Passage(programs)
    choices = choices_of_bars(programs, prices)
    return is_first_right("bars", choices, lambda bars: passage.looks_called(looks, many, bars), value)


def fit_passage(programs, many, looks):
    """The passage of programs that are each right by themselves."""
    passage = Passage(programs)
    for number, course in enumerate(passage.courses):
        if look_through(looks_called(course, looks, many))[0] == "wrong":
            raise Unfit(number)
    return passage


def choices_of_bars(programs, prices):
    """All bars, in their sequence, each as (price, bars, bars)."""
    priced = sorted([(ask, price) for ask, price in zip(programs[0].works, prices)])
    return [(price, bars, bars) for price, bars in priced_choices(priced)]


def check_changing(programs, many, looks):
    """Refuse wrong arguments that changing and barred share."""
    if not isinstance(programs, tuple) or len(programs) not in (2, 3):
        raise BadPrograms(programs)
    if not all([isinstance(program, Program) for program in programs]):
        raise BadPrograms(programs)
    if not all([do_suit(programs[0], program) for program in programs[1:]]):
        raise BadPrograms(programs)
    check_many(many)
    check_looks(looks)


def check_bars(programs, bars):
    """Refuse what is no tuple of asks."""
    if not isinstance(bars, tuple) or not all([is_word(ask, programs[0].works) for ask in bars]):
        raise BadBars(bars)
    if not is_ascending(bars):
        raise BadBars(bars)


def check_prices(programs, prices):
    """Refuse what is no price for each ask."""
    if not is_row(prices, len(programs[0].works)) or not all([is_price(price) for price in prices]):
        raise BadPrices(prices)
