"""Rows of redone cells: (base, entries), an entry being (word, worth, n).

While a move is done, n is the number of a task instead of its place, and a row may hold a MARK: the
place where a handler writes to a cell of which its own task had an entry.
"""

SURE = -1
MARK = ("mark", 0, -2)


def first_cell(first, back):
    """What a cell is at first: a worth, or a row."""
    return (first, ()) if back == "redone" else first


def worth_of_row(row, worths):
    """The base with all entries done in sequence."""
    worth, entries = row
    for word, much, _ in entries:
        worth = worth_behind(worth, word, much, worths)
    return worth


def worth_behind(worth, word, much, worths):
    """What becomes of a worth by a set or an add; anything else leaves it."""
    if word == "set":
        return much
    if word == "add":
        return (worth + much) % worths
    return worth


def with_last(row, entry):
    """The row with one entry more at its end."""
    return row[0], row[1] + (entry,)


def with_write(row, word, much):
    """The row with a write of a handler: ahead of the mark, so that one stands behind the other, or at the end."""
    base, entries = row
    at = entries.index(MARK) if MARK in entries else len(entries)
    return base, entries[:at] + ((word, much, SURE),) + entries[at:]


def without_task(row, number):
    """The row without the entry of this task."""
    return row[0], tuple([entry for entry in row[1] if entry[2] != number])


def with_settled(row, number, is_sure):
    """The row with the entry of this task made sure or gone, and the mark behind it or in its place."""
    entries = []
    for word, much, n in row[1]:
        if n != number:
            entries.append((word, much, n))
            continue
        if is_sure:
            entries.append((word, much, SURE))
        entries.append(MARK)
    return row[0], tuple(entries)


def put_together(row, worths):
    """The row without a mark, with sure entries that are neighbours made one, the foremost ones put in the base."""
    base = row[0]
    entries = []
    unmarked = [entry for entry in row[1] if entry != MARK]
    for entry in unmarked:
        word, much, n = entry
        if n != SURE:
            entries.append(entry)
        elif len(entries) == 0:
            base = worth_behind(base, word, much, worths)
        else:
            put_behind(entries, entry, worths)
    return base, tuple(entries)


def put_behind(entries, sure, worths):
    """Put a sure entry behind entries that are put together; they begin with a guess."""
    word, much, _ = sure
    if entries[-1][2] == SURE:
        last, before, _ = entries.pop()
        much = worth_behind(before, word, much, worths)
        word = "set" if word == "set" else last
    if word == "set" or much > 0:
        entries.append((word, much, SURE))
