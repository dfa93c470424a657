"""What is there behind each move of a story, across exchanges of programs."""

from lastasked.moves import after_deed, after_task, is_possible
from lastasked.overs import OVER, plain_over, screen_over
from lastasked.plain import plain_after, plain_first, plain_shown
from lastasked.stands import first_stand, shown


class Page:
    """The program and its stands behind a move, None ahead of all moves, and the way of the move."""

    def __init__(self, move, program, stand, plain, way):
        self.move = move
        self.program = program
        self.stand = stand
        self.plain = plain
        self.way = way
        self.shown = shown(program, stand)
        self.plain_shown = plain_shown(program, plain)


def first_page(program):
    """The page ahead of all moves."""
    plain = plain_first(program)
    return Page(None, program, first_stand(program), plain, (plain_shown(program, plain),))


def page_behind(page, move, many):
    """The page behind any value; None if it is no move that is possible. An exchange is none."""
    program, stand = page.program, page.stand
    if not is_possible(program, stand, move):
        return None
    if move[0] != "deed":
        return Page(move, program, after_task(program, stand, move[0], move[1]).as_stand(), page.plain, ())
    screen = after_deed(program, stand, move[1], move[2])
    if len(screen.tasks) > many:
        return None
    plain, way = plain_after(program, page.plain, move[1], move[2])
    return Page(move, program, screen.as_stand(), plain, way)


def page_over(page, newer, many):
    """The page behind an exchange for a newer program that suits; None if it is not possible."""
    screen = screen_over(page.program, newer, page.stand)
    if len(screen.tasks) > many:
        return None
    plain, way = plain_over(page.program, newer, page.plain)
    return Page(OVER, newer, screen.as_stand(), plain, way)


def wrongs_of(pages):
    """(number, word) of each page at which something is wrong."""
    found = []
    was, since = {}, {}
    for number, page in enumerate(pages):
        was.update({picture: True for picture in page.way})
        since.update({picture: True for picture in page.way})
        if page.shown is not None and page.shown == page.plain_shown:
            since = {page.shown: True}
        word = word_at_page(page, was, since)
        if word != "":
            found.append((number, word))
    return tuple(found)


def word_at_page(page, was, since):
    """The word of what is wrong at a page, or none: of a moment ahead of that of a rest."""
    if page.shown is not None and page.shown not in was:
        return "never"
    if page.shown is not None and page.shown not in since:
        return "elder"
    return "rest" if page.stand[3] == () and page.shown != page.plain_shown else ""
