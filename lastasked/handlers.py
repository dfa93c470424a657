"""Handlers of a screen, done statement by statement.

The screen that they are passed has worth_of(cell), write(cell, word, worth),
make_ask(ask, worth, guesses, line), call_off(ask), forget(ask) and make_anew().
"""


def do_handler(screen, block, it, asked):
    """Do these statements; it and asked are the worths that they read under these words."""
    for statement in block:
        word = statement[0]
        if word == "if":
            left = worth_of_value(screen, statement[1], it, asked)
            right = worth_of_value(screen, statement[2], it, asked)
            do_handler(screen, statement[3] if left == right else statement[4], it, asked)
        elif word == "ask":
            # All of E is worked out ahead of what the ask itself does to cells.
            worth = worth_of_value(screen, statement[2], it, asked)
            guesses = [(cell, sign, worth_of_value(screen, value, it, asked)) for cell, sign, value in statement[3]]
            screen.make_ask(statement[1], worth, guesses, statement[4])
        elif word == "off":
            screen.call_off(statement[1])
        elif word == "forget":
            screen.forget(statement[1])
        elif word == "anew":
            screen.make_anew()
        else:
            screen.write(statement[1], word, worth_of_value(screen, statement[2], it, asked))


def worth_of_value(screen, value, it, asked):
    """The worth of an E of the screen."""
    if value == "it":
        return it
    if value == "asked":
        return asked
    if isinstance(value, str):
        return screen.worth_of(value)
    return value
