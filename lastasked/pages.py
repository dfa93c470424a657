"""What is there behind each move of a story, across exchanges of programs."""

from lastasked.journal_texts import rows_ahead, rows_of_move
from lastasked.moves import after_deed, after_task, is_possible
from lastasked.overs import OVER, plain_over, screen_over
from lastasked.plain import plain_after, plain_first, plain_shown
from lastasked.stands import first_stand, shown


class Page:
    """The program and its stands behind a move, the way of the move, and its rows in a journal."""

    def __init__(self, move, program, stand, plain, way, rows):
        self.move = move
        self.program = program
        self.stand = stand
        self.plain = plain
        self.way = way
        self.rows = rows
        self.shown = shown(program, stand)
        self.plain_shown = plain_shown(program, plain)


def first_page(program, many):
    """The page ahead of all moves, of which there is none."""
    plain = plain_first(program)
    return Page(None, program, first_stand(program), plain, (plain_shown(program, plain),), rows_ahead(program, many))


def page_of(move, program, stand, plain, way):
    """The page behind a move."""
    return Page(move, program, stand, plain, way, rows_of_move(move, program))


def page_behind(page, move, many):
    """The page behind any value; None if it is no move that is possible. An exchange is none."""
    program, stand = page.program, page.stand
    if not is_possible(program, stand, move):
        return None
    if move[0] != "deed":
        return page_of(move, program, after_task(program, stand, move[0], move[1]).as_stand(), page.plain, ())
    screen = after_deed(program, stand, move[1], move[2])
    if len(screen.tasks) > many:
        return None
    plain, way = plain_after(program, page.plain, move[1], move[2])
    return page_of(move, program, screen.as_stand(), plain, way)


def page_over(page, newer, many):
    """The page behind an exchange for a newer program that suits; None if it is not possible."""
    screen = screen_over(page.program, newer, page.stand)
    if len(screen.tasks) > many:
        return None
    plain, way = plain_over(page.program, newer, page.plain)
    return page_of(OVER, newer, screen.as_stand(), plain, way)


def wrongs_of(pages):
    """(number, word) of each page at which something is wrong."""
    found = []
    was, since = {}, {}
    for number, page in enumerate(pages):
        for picture in page.way:
            was[picture] = since[picture] = True
        if page.shown is not None and page.shown == page.plain_shown:
            since = {page.shown: True}
        word = word_at_page(page, was, since)
        if word != "":
            found.append((number, word))
    return tuple(found)


def word_at_page(page, was, since):
    """The word of what is wrong at a page, or none: of a moment ahead of that of a rest."""
    if page.shown is not None and page.shown not in was:
        return "never"
    if page.shown is not None and page.shown not in since:
        return "elder"
    return "rest" if page.stand[3] == () and page.shown != page.plain_shown else ""
