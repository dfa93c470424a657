"""Guards, and the text of a program with guards.

A guard is ("take", "send" or "keep", ask, word), ("back", cell, word), ("order",), ("off" or "forget", deed, ask),
("guess", line, cell, sign, E) or ("drop", line).
"""

from lastasked.errors import BadGuards, BadText
from lastasked.listing import CHOICE_WORDS, Listing
from lastasked.programs import Program
from lastasked.reading import CHOICE_LINES
from lastasked.values import is_ascending, is_integer, is_row, is_word


def program_with(program, guards):
    """The program with any value that is guards that it can have together."""
    listing = Listing(program.text)
    if not are_guards(program, listing, guards):
        raise BadGuards(guards)
    try:
        return Program(text_with(program, listing, guards))
    except BadText:
        raise BadGuards(guards)


def are_guards(program, listing, guards):
    """Whether any value is an ascending tuple of guards that go together, each of which changes something."""
    if not isinstance(guards, tuple) or not all([is_guard(program, listing, guard) for guard in guards]):
        return False
    if not is_ascending(guards) or not all([guards[n - 1][:2] != guards[n][:2] for n in range(1, len(guards))]):
        return False
    if any([guard[0] == "guess" and ("drop", guard[1]) in guards for guard in guards]):
        return False
    return all([text_with(program, listing, (guard,)) != program.text for guard in guards])


def is_guard(program, listing, value):
    """Whether any value is a guard by its form, of what the program has."""
    if not isinstance(value, tuple) or len(value) == 0 or not isinstance(value[0], str):
        return False
    word = value[0]
    if word in CHOICE_WORDS:
        return is_row(value, 3) and is_choice(program, word, value[1], value[2])
    if word in ("off", "forget"):
        return is_row(value, 3) and is_word(value[1], program.hands) and is_word(value[2], program.works)
    if word == "guess":
        return is_row(value, 5) and is_ask_line(listing, value[1]) and is_guess(program, value[2:])
    if word == "drop":
        return is_row(value, 2) and is_ask_line(listing, value[1])
    return value == ("order",)


def is_choice(program, kind, name, word):
    """Whether any values are a name and a word that a line of this kind may have, or the word that is there without."""
    if not is_word(name, program.choices[kind]):
        return False
    return any([is_word(word, words + (plain,)) for other, words, plain in CHOICE_LINES if other == kind])


def is_ask_line(listing, value):
    """Whether any value is the line of an ask statement."""
    return is_integer(value) and listing.is_statement(value, "ask")


def is_guess(program, parts):
    """Whether these are a cell, a sign and one word; whether this can be E is told as the text is read."""
    cell, sign, word = parts
    if not is_word(cell, program.firsts) or not is_word(sign, ("=", "+")) or not isinstance(word, str):
        return False
    return " " not in word and "\n" not in word


def text_with(program, listing, guards):
    """The text of the program with guards, that of a program if they are let."""
    changed = {line: changed_row(listing, line, guards) for line in listing.numbers()}
    choices = choice_rows(program, guards)
    rows = []
    is_ahead = True
    for line in listing.numbers():
        if listing.is_part(line, CHOICE_WORDS):
            continue
        is_deed = listing.is_part(line, ("deed",))
        if is_deed and is_ahead:
            rows.extend(choices)
            is_ahead = False
        rows.append(changed[line])
        if line == listing.house and ("order",) in guards and not program.in_order:
            rows.append("  in order")
        if is_deed:
            rows.extend(rows_ahead(listing.words_at(line)[1], guards))
    return "\n".join(rows)


def changed_row(listing, line, guards):
    """The row of this line with what a guess or a drop makes of it."""
    row = listing.rows[line - 1]
    for guard in guards:
        if guard[0] == "guess" and guard[1] == line:
            return f"{row} guess {guard[2]} {guard[3]} {guard[4]}"
        if guard == ("drop", line):
            lead = "  " * listing.depths[line - 1]
            return lead + " ".join(listing.words_at(line)[:3])
    return row


def choice_rows(program, guards):
    """The take, send, keep and back lines."""
    rows = []
    for word, _, plain in CHOICE_LINES:
        chosen = dict(program.choices[word])
        for guard in guards:
            if guard[0] == word:
                chosen[guard[1]] = guard[2]
        rows.extend([f"  {word} {name} {choice}" for name, choice in chosen.items() if choice != plain])
    return rows


def rows_ahead(name, guards):
    """What stands ahead of the first statement of a deed: forget ahead of off."""
    return [f"    {word} {guard[2]}" for word in ("forget", "off") for guard in guards if guard[:2] == (word, name)]
