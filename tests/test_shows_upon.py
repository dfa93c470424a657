"""Section 12: whether any value is what upon may tell."""

import random
import unittest

from lastasked.guesses import shows_upon, upon
from lastasked.moves import moves
from lastasked.stands import first_stand, is_stand
from tests.helper import comes, deed, does, made
from tests.marks import keys_of, lies, member_behind
from tests.searches import is_so_many, lean_programs
from tests.test_stands import ANY, changed, second_is_stand
from tests.test_upon import Guessing

PICK = made("worths 2", "house", "  ask save", "    answer it", "screen", "  cell c 0", "  show c", "  deed pick", "    ask save it guess c + 1")
TWO = made("worths 2", "house", "  ask save", "  ask load", "screen", "  cell c 0", "  show c", "  back c redone", "  deed pick", "    ask save 1 guess c = 1",
           "  deed get", "    ask load 1 guess c = 0")


def has_at(program, stand, n):
    """The cells of which a task still has guesses."""
    rows = [name for (name, _, _), cell in zip(program.cells, stand[1]) if type(cell) is tuple and any(entry[2] == n for entry in cell[1])]
    return tuple(sorted([name for name, _ in stand[3][n][5]] + rows))


def is_member(program, value):
    """A plain second reading of what a member is by its form."""
    if type(value) is not tuple or len(value) != 2 or not second_is_stand(program.text, value[0]):
        return False
    stand, marks = value
    if type(marks) is not tuple or len(marks) != len(stand[3]):
        return False
    rows = [row.split() for row in program.text.split("\n")]
    for n, mark in enumerate(marks):
        if type(mark) is not tuple or len(mark) != 3 or not is_so_many(mark[0], 1, len(rows)) or not is_so_many(mark[1], 0, len(marks) - 1):
            return False
        if rows[mark[0] - 1][:2] != ["ask", stand[3][n][0]] or program.text.split("\n")[mark[0] - 1][:4] != "    ":
            return False
        if repr(mark[2]) != repr(has_at(program, stand, n)):
            return False
    return len({mark[1] for mark in marks}) == len(marks)


def judge(program, many, value):
    """A plain second judge."""
    if type(value) is not tuple or len(value) != 2 or type(value[0]) is not tuple or type(value[1]) is not tuple:
        return False
    rows, table = value
    if not all(is_member(program, member) for member in table) or list(table) != sorted(set(table)):
        return False
    there = set(table)
    if (first_stand(program), ()) not in there:
        return False
    if not all(member_behind(program, member, move) in there for member in table for move in moves(program, member[0], many)):
        return False
    keys = keys_of(program)
    if len(rows) != len(keys):
        return False
    for row, key in zip(rows, keys):
        if type(row) is not tuple or len(row) != 4 or repr(row[:3]) != repr(key) or type(row[3]) is not tuple:
            return False
        member = (first_stand(program), ())
        for move in row[3]:
            if repr(move) not in [repr(other) for other in moves(program, member[0], many)]:
                return False
            member = member_behind(program, member, move)
        if row[3] != () and not lies(member, key) or row[3] == () and any(lies(other, key) for other in table):
            return False
    return True


def closed_with(program, many, member, most=300):
    """All members to which moves lead from this one, with it, or some of them if they are more."""
    found, left = {member}, [member]
    while left and len(found) < most:
        one = left.pop()
        for behind in [member_behind(program, one, move) for move in moves(program, one[0], many)]:
            if behind not in found:
                found.add(behind)
                left.append(behind)
    return found


class Shows(unittest.TestCase):
    def told(self, wanted, program, many, value):
        self.assertIs(shows_upon(program, many, value), wanted, value)
        self.assertIs(judge(program, many, value), wanted, value)

    def test_what_upon_tells(self):
        for program in (PICK, TWO):
            for many in (1, 2, 3):
                self.told(True, program, many, upon(program, many))

    def test_longer_stories(self):
        rows, table = upon(PICK, 2)
        turn = (deed("pick"), does(0), comes(0))
        for story in (turn + rows[0][3], turn * 5 + rows[0][3], rows[0][3] + (does(1),), rows[0][3] + (does(0), does(1))):
            self.told(True, PICK, 2, ((rows[0][:3] + (story,),), table))

    def test_other_stories(self):
        rows, table = upon(PICK, 2)
        two = rows[0][3]
        for story in (two[:1], two + (does(0), comes(0)), two * 2, two + (does(2),), (does(0),), (two[0], list(two[1])), list(two), two[::-1] + ((),), (("over",),), two + (("over",),)) + ANY:
            self.told(False, PICK, 2, ((rows[0][:3] + (story,),), table))
        self.told(False, PICK, 1, ((rows[0][:3] + (two,),), upon(PICK, 1)[1]))

    def test_none_where_there_is_one(self):
        for program in (PICK, TWO):
            rows, table = upon(program, 2)
            for n in range(len(rows)):
                if rows[n][3]:
                    self.told(False, program, 2, (rows[:n] + (rows[n][:3] + ((),),) + rows[n + 1:], table))

    def test_one_where_there_is_none(self):
        rows, table = upon(PICK, 1)
        for story in ((deed("pick"),), (deed("pick"), deed("pick")), (deed("pick"), does(0)), (deed("pick"), does(0), comes(0), deed("pick"))):
            self.told(False, PICK, 1, ((rows[0][:3] + (story,),), table))
        one = made("worths 2", "house", "  ask save", "screen", "  cell c 0", "  show c", "  send save one", "  deed pick", "    ask save it guess c + 1")
        rows, table = upon(one, 2)
        self.told(True, one, 2, (rows, table))
        self.told(False, one, 2, ((rows[0][:3] + ((deed("pick"), deed("pick")),),), table))

    def test_rows(self):
        rows, table = upon(TWO, 2)
        self.assertEqual(len(rows), 4)
        for n in range(4):
            self.told(False, TWO, 2, (rows[:n] + rows[n + 1:], table))
            self.told(False, TWO, 2, (rows[:n] + rows[n:n + 1] + rows[n:], table))
            for m in range(n):
                self.told(False, TWO, 2, (rows[:m] + (rows[n],) + rows[m + 1:n] + (rows[m],) + rows[n + 1:], table))
        self.told(False, TWO, 2, ((), table))
        self.told(False, TWO, 2, (list(rows), table))
        self.told(False, TWO, 2, (tuple(list(row) for row in rows), table))
        self.told(False, TWO, 2, [rows, table])
        self.told(False, TWO, 2, (rows, table, ()))
        self.told(False, TWO, 2, (table, rows))

    def test_members(self):
        rows, table = upon(TWO, 2)
        for n in range(len(table)):
            self.told(False, TWO, 2, (rows, table[:n] + table[n + 1:]))
        for n in range(0, len(table) - 1, 7):
            self.told(False, TWO, 2, (rows, table[:n] + table[n:n + 1] + table[n:]))
            self.told(False, TWO, 2, (rows, table[:n] + table[n:n + 2][::-1] + table[n + 2:]))
        self.told(False, TWO, 2, (rows, ()))
        self.told(False, TWO, 2, (rows, list(table)))

    def test_one_thing_otherwise(self):
        for many in (1, 2):
            found = upon(PICK, many)
            count = 0
            for value in changed(found):
                count += 1
                if repr(value) != repr(found):
                    wanted = judge(PICK, many, value) if count % 9 == 0 or value[0] != found[0] else False
                    self.assertIs(shows_upon(PICK, many, value), wanted, value)
            self.assertGreater(count, 300)

    def test_marks_otherwise(self):
        # Beside a table that is closed without it a member by a wrong form is refused.
        rows, table = upon(PICK, 1)
        far = ((), (1,), (), (("save", 1, "answered", 1, "live", ()),))
        self.assertTrue(is_stand(PICK, far))
        more = tuple(sorted(set(table) | closed_with(PICK, 1, (far, ((9, 0, ()),)))))
        self.assertEqual([member[0] for member in more].count(far), 1)
        self.told(True, PICK, 1, (rows, more))
        for mark in ((8, 0, ()), (3, 0, ()), (9, 1, ()), (9, -1, ()), (9, 0, ("c",)), (9, 0, []), (True, 0, ()), (9, False, ()), (9, 0), (9, 0, (), 0), [9, 0, ()], None):
            self.told(False, PICK, 1, (rows, tuple(member if member[0] != far else (far, (mark,)) for member in more)))

    def test_greater_closed_tables(self):
        # A table for more asks is closed for fewer, but it has to show that nothing lies where none is told.
        wide, slim = upon(PICK, 3), upon(PICK, 2)
        self.told(True, PICK, 2, (slim[0], wide[1]))
        self.told(True, PICK, 2, (wide[0], wide[1]))
        self.told(False, PICK, 3, (slim[0], slim[1]))
        self.told(False, PICK, 1, (upon(PICK, 1)[0], slim[1]))
        larger = 0
        for seed, program in lean_programs(range(500, 560), Guessing):
            found, draw = upon(program, 1), random.Random(seed)
            if len(found[1]) > 80:
                continue
            others = [stand for stand, _ in found[1] for stand in changed(stand) if is_stand(program, stand)]
            for stand in draw.sample(others, min(4, len(others))):
                lines = {}
                for line, row in enumerate(program.text.split("\n"), 1):
                    if row.startswith("    ") and row.split()[0] == "ask":
                        lines.setdefault(row.split()[1], []).append(line)
                if not all(task[0] in lines for task in stand[3]):
                    continue
                ahead = draw.sample(range(len(stand[3])), len(stand[3]))
                member = (stand, tuple((draw.choice(lines[task[0]]), ahead[n], has_at(program, stand, n)) for n, task in enumerate(stand[3])))
                more = set(found[1]) | closed_with(program, 1, member)
                value = (found[0], tuple(sorted(more)))
                wanted = judge(program, 1, value)
                self.told(wanted, program, 1, value)
                larger += wanted and len(more) > len(found[1])
        self.assertGreater(larger, 20)

    def test_any(self):
        rows, table = upon(PICK, 1)
        for value in ANY:
            for told in (value, (value, table), (rows, value), (value, value), ((value,), table), (rows, (value,)), (rows, table + (value,)), ((rows[0][:3] + (value,),), table)):
                if repr(told) != repr((rows, table)):
                    self.told(False, PICK, 1, told)


if __name__ == "__main__":
    unittest.main()
