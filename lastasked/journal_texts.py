"""What a keeper did, as a text."""

from lastasked.texts import text_of_move


def journal_of(many, pages):
    """The text for so many asks and these pages."""
    rows = [f"many {many}", "program"] + deeper(pages[0].program.text, 1) + ["story"]
    for page in pages[1:]:
        rows.append("  " + text_of_move(page.move))
        if page.move == ("over",):
            rows.extend(deeper(page.program.text, 2))
    return "\n".join(rows)


def deeper(text, depth):
    """The lines of a text, so much deeper."""
    return ["  " * depth + row for row in text.split("\n")]
