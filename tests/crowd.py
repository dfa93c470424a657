"""A plain second reading of section 9: rows by whole stands that have so many tasks of each sort."""

from lastasked.errors import NoMove
from lastasked.moves import after
from lastasked.plain import plain_after, plain_first, plain_shown
from lastasked.stands import first_stand, shown
from tests.searches import are_worths, is_pair, pictures


def is_single(program, task):
    take, send = {ask[0]: ask[1:3] for ask in program.asks}[task[0]]
    return task[2] == "held" or send in ("one", "latest") and task[4] != "off" or take == "last" and task[4] == "live"


def counted(program, tasks):
    """(single tasks, {other task: how many})."""
    many = {}
    for task in tasks:
        if not is_single(program, task):
            many[task] = many.get(task, 0) + 1
    return tuple(sorted(task for task in tasks if is_single(program, task))), many


def first_rows(program):
    stand, plain = first_stand(program), plain_first(program)
    for picture in pictures(program):
        so = picture == plain_shown(program, plain)
        yield stand[:3] + ((), plain, picture, so, so), ()


def is_wrong(program, control):
    return shown(program, (control[0], control[1])) == control[5] and not (control[6] and control[7])


def rows_behind(program, row, copies):
    """(control, {task: how many}) behind each move, with so many copies in the place of any number."""
    (house, cells, stores, singles, plain, picture, was, since), bounds = row
    others = [task for task, bound in bounds for _ in range(bound or copies)]
    held = [task for task in singles if task[2] == "held"]
    tasks = [task for task in singles if task[2] != "held"] + others + held
    places = {task: n for n, task in enumerate(tasks)}
    found = [("deed", name, it) for name, upto in program.deeds for it in range(upto + 1)]
    found += [(word, n) for n in places.values() for word in ("sends", "does", "comes", "gone")]
    for move in found:
        try:
            behind = after(program, (house, cells, stores, tuple(tasks)), move)
        except NoMove:
            continue
        later, way = plain_after(program, plain, *move[1:]) if move[0] == "deed" else (plain, ())
        up = shown(program, behind) is not None and shown(program, behind) == plain_shown(program, later)
        then = shown(program, behind) == picture if up else since or picture in way
        single, many = counted(program, behind[3])
        yield behind[:3] + (single, later, picture, was or picture in way, then), many


def lies_in(bounds, others):
    others = dict(others)
    return all(task in others and (others[task] == 0 or 1 <= bound <= others[task]) for task, bound in bounds)


def second_rows(program, most, limit=1500):
    """The table with bounds up to most, "wrong", or None if the rows are more than the limit."""
    seen = set(first_rows(program))
    left = list(seen)
    while left:
        for control, many in rows_behind(program, left.pop(), most + 2):
            if is_wrong(program, control):
                return "wrong"
            row = control, tuple(sorted((task, 0 if count > most else count) for task, count in many.items()))
            if row not in seen:
                seen.add(row)
                left.append(row)
        if len(seen) > limit:
            return None
    by_control = {}
    for control, bounds in seen:
        by_control.setdefault(control, []).append(bounds)
    return tuple(sorted(
        (control, bounds) for control, bounds in seen
        if not any(other != bounds and lies_in(bounds, other) for other in by_control[control])))


def judge_rows(program, table):
    """A plain second judge of tables of rows, for rows to which moves lead."""
    if type(table) is not tuple:
        return False
    for row in table:
        if not is_right_form(program, row):
            return False
    if list(table) != sorted(set(table)) or any(is_wrong(program, control) for control, _ in table):
        return False
    by_control = {}
    for control, bounds in table:
        by_control.setdefault(control, []).append(bounds)
    if not all(control in by_control for control, _ in first_rows(program)):
        return False
    for row in table:
        # More than these bounds and what a move makes can be together.
        most = sum(bound for _, bound in row[1]) + 3
        for control, many in rows_behind(program, row, most + 2):
            bounds = tuple((task, 0 if count > most else count) for task, count in many.items())
            if not any(lies_in(bounds, other) for other in by_control.get(control, [])):
                return False
    return True


def is_right_form(program, row):
    if type(row) is not tuple or len(row) != 2 or type(row[0]) is not tuple or len(row[0]) != 8 or type(row[1]) is not tuple:
        return False
    house, cells, stores, singles, plain, picture, was, since = row[0]
    if type(singles) is not tuple or type(was) is not bool or type(since) is not bool:
        return False
    for part in row[1]:
        if type(part) is not tuple or len(part) != 2 or type(part[1]) is not int or part[1] < 0:
            return False
    others = tuple(task for task, _ in row[1])
    for tasks in (singles, others):
        # Held ones stand behind all others.
        stands = all(type(task) is tuple and len(task) == 6 for task in tasks)
        if not stands or not is_pair(program, (house, cells, stores, tuple(sorted(tasks, key=lambda task: task[2] == "held"))), plain):
            return False
        if list(tasks) != sorted(set(tasks)):
            return False
    if any(is_single(program, task) for task in others) or not all(is_single(program, task) for task in singles):
        return False
    return are_worths(program, picture, len(program.shows))
