"""Stories as texts."""

from lastasked.errors import BadStory, BadText
from lastasked.lines import DIGITS, is_name
from lastasked.moves import TASK_WORDS
from lastasked.overs import OVER
from lastasked.values import is_below, is_row, is_same, is_word

MOST_FIGURES = 3
NUMBERS = 1000


def show_story(story):
    """The text of any value that is moves by their form."""
    if not isinstance(story, tuple):
        raise BadStory(0)
    for number, move in enumerate(story, start=1):
        if not is_move(move):
            raise BadStory(number)
    return "\n".join([text_of_move(move) for move in story])


def read_story(text):
    """The story of which any value is the text."""
    if not isinstance(text, str):
        raise BadText(0)
    rows = [] if text == "" else text.split("\n")
    story = []
    for number, row in enumerate(rows, start=1):
        move = move_of_text(row)
        if move is None:
            raise BadText(number)
        story.append(move)
    return tuple(story)


def is_move(value):
    """Whether any value is a move by its form."""
    if is_row(value, 3) and value[0] == "deed":
        return isinstance(value[1], str) and is_name(value[1]) and is_below(value[2], NUMBERS)
    if is_row(value, 2) and is_word(value[0], TASK_WORDS):
        return is_below(value[1], NUMBERS)
    return is_same(value, OVER)


def text_of_move(move):
    """The text of a move."""
    if move[0] == "deed" and move[2] == 0:
        return f"deed {move[1]}"
    return " ".join([str(part) for part in move])


def move_of_text(row):
    """The move of which this is the text; None if it is none's."""
    words = row.split(" ")
    if row == "over":
        return OVER
    if words[0] == "deed" and len(words) in (2, 3) and is_name(words[1]):
        if len(words) == 2:
            return "deed", words[1], 0
        return ("deed", words[1], int(words[2])) if is_number(words[2]) and words[2] != "0" else None
    if words[0] in TASK_WORDS and len(words) == 2 and is_number(words[1]):
        return words[0], int(words[1])
    return None


def is_number(word):
    """Whether this is a number as it is written."""
    if not 1 <= len(word) <= MOST_FIGURES or not all([figure in DIGITS for figure in word]):
        return False
    return word == "0" or word[0] != "0"
