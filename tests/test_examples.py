"""The examples of sections 4 to 6 of the document, as they stand there."""

import unittest

from lastasked.errors import BadText, NoMove
from lastasked.moves import after, moves
from lastasked.programs import Program
from lastasked.stands import first_stand, is_stand, shown

ROWS = ['worths 3', 'house', '  in order', '  cell n 1', '  ask save', '    set n it', '  ask load', '    answer n', 'screen', '  cell v 0', '  cell busy 0', '  show v', '  unsure busy = 1', '  take load last', '  keep load both', '  back v redone', '  deed pick upto 2', '    set busy 1', '    ask save it guess v = it', '  answer save', '    set busy 0', '    ask load 0']


class Examples(unittest.TestCase):
    def same(self, got, wanted):
        self.assertEqual(repr(got), repr(wanted))

    def test_program(self):
        made = Program('\n'.join(ROWS))
        self.same(
            [made.worths, made.in_order, made.house, made.asks, made.cells, made.shows, made.deeds],
            [3, True, (('n', 1),), (('save', 'any', 'many', 'none'), ('load', 'last', 'many', 'both')), (('v', 0, 'redone'), ('busy', 0, 'kept')), ('v',), (('pick', 2),)])

    def test_bad_text(self):
        with self.assertRaises(BadText) as caught:
            Program('\n'.join(ROWS[:21] + ['    ask save 0']))
        self.same(caught.exception.line, 22)

    def test_latest(self):
        program = Program('\n'.join(['worths 4', 'house', '  cell n 0', '  ask save', '    add n it', '    answer n', 'screen', '  cell c 0', '  show c', '  send save latest', '  deed plus', '    ask save 1 guess c + 1', '  answer save', '    set c it']))
        plus = ('deed', 'plus', 0)
        one = after(program, first_stand(program), plus)
        three = after(program, after(program, one, plus), plus)
        self.same(
            [one, three[3], shown(program, three), moves(program, three, 2)],
            [((0,), (1,), (), (('save', 1, 'out', 0, 'live', (('c', 0),)),)), (('save', 1, 'out', 0, 'live', (('c', 0),)), ('save', 1, 'held', 0, 'live', (('c', 1),))), (2,), (('deed', 'plus', 0), ('does', 0))])

    def test_rows(self):
        pick = Program('worths 3\nhouse\n  ask save\n    answer it\nscreen\n  cell c 0\n  show c\n  back c redone\n  deed pick upto 2\n    ask save it guess c = it')
        stand = after(pick, first_stand(pick), ('deed', 'pick', 2))
        far = ((), ((0, (('set', 2, 1),)),), (), stand[3])
        sure = ((), ((0, (('set', 2, -1),)),), (), ())
        self.same(
            [stand, is_stand(pick, stand), is_stand(pick, far), is_stand(pick, sure)],
            [((), ((0, (('set', 2, 0),)),), (), (('save', 2, 'out', 0, 'live', ()),)), True, False, False])

    def test_called_off(self):
        swap = Program('\n'.join(['worths 2', 'house', '  ask save', '    answer it', 'screen', '  cell c 0', '  show c', '  deed swap upto 1', '    off save', '    ask save it guess c = it']))
        one = after(swap, first_stand(swap), ('deed', 'swap', 1))
        two = after(swap, one, ('deed', 'swap', 0))
        self.same(
            [one[1], two, moves(swap, two, 2)],
            [(1,), ((), (0,), (), (('save', 1, 'out', 0, 'off', ()), ('save', 0, 'out', 0, 'live', (('c', 0),)))), (('does', 0), ('does', 1), ('gone', 0))])

    def test_no_move(self):
        find = Program('worths 2\nhouse\n  ask find\n    answer it\nscreen\n  cell x 0\n  show x\n  deed type upto 1\n    ask find it\n  answer find\n    set x it')
        with self.assertRaises(NoMove) as caught:
            after(find, first_stand(find), ('comes', 0))
        self.same(caught.exception.value, ('comes', 0))


if __name__ == "__main__":
    unittest.main()
