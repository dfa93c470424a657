"""What the house does for an ask."""

from lastasked.rows import worth_behind


def do_ask(program, house, ask, it):
    """(worths of the house behind it, "answered" or "refused", what is answered)."""
    names = [name for name, _ in program.house]
    cells = dict(zip(names, house))
    phase, answer = do_block(program, program.works[ask], cells, it)
    if phase == "":
        phase = "answered"
    return tuple([cells[name] for name in names]), phase, answer


def do_block(program, block, cells, it):
    """(phase, answer) of the statement that ends the ask, ("", 0) if none does; the cells change."""
    for statement in block:
        word = statement[0]
        if word == "refuse":
            return "refused", 0
        if word == "answer":
            return "answered", worth_in_house(statement[1], cells, it)
        if word == "if":
            left = worth_in_house(statement[1], cells, it)
            right = worth_in_house(statement[2], cells, it)
            ending = do_block(program, statement[3] if left == right else statement[4], cells, it)
            if ending[0] != "":
                return ending
        else:
            much = worth_in_house(statement[2], cells, it)
            cells[statement[1]] = worth_behind(cells[statement[1]], word, much, program.worths)
    return "", 0


def worth_in_house(value, cells, it):
    """The worth of an E of the house."""
    if value == "it":
        return it
    if isinstance(value, str):
        return cells[value]
    return value
