"""The examples of sections 12 to 17 of the document, as they stand there."""

import unittest

from lastasked.desk import Desk
from lastasked.errors import BadDeeds, BadPrices, Unfit
from lastasked.exchanging import barred, changing, shows_changing
from lastasked.guards import with_guards
from lastasked.guesses import shows_upon, upon
from lastasked.keeper import Keeper
from lastasked.programs import Program
from lastasked.steady import steady
from lastasked.stories import needed
from lastasked.texts import read_story, show_story


class Examples(unittest.TestCase):
    def same(self, got, wanted):
        self.assertEqual(repr(got), repr(wanted))

    def test_steady(self):
        find = Program('\n'.join(['worths 3', 'house', '  ask find', '    answer it', 'screen', '  cell x 0', '  show x', '  deed type upto 2', '    ask find it', '  answer find', '    set x it']))
        self.same([steady(find, 2)[0], steady(with_guards(find, (('take', 'find', 'last'),)), 2)[0]], ['parts', 'steady'])

    def test_upon(self):
        program = Program('\n'.join(['worths 2', 'house', '  ask save', 'screen', '  cell c 0', '  show c', '  deed pick upto 1', '    ask save it guess c = it']))
        self.same([[(row[:3], len(row[3])) for row in upon(program, many)[0]] for many in (1, 2)], [[((8, 8, 'c'), 0)], [((8, 8, 'c'), 2)]])

    def test_shows_upon(self):
        pick = Program('worths 2\nhouse\n  ask save\n    answer it\nscreen\n  cell c 0\n  show c\n  deed pick\n    ask save it guess c + 1')
        found = upon(pick, 2)
        self.same([found[0], found[1][0], shows_upon(pick, 2, found), upon(pick, 1)[0]], [((9, 9, 'c', (('deed', 'pick', 0), ('deed', 'pick', 0))),), (((), (0,), (), ()), ()), True, ((9, 9, 'c', ()),)])

    def test_labels(self):
        box = Program('worths 2\nhouse\n  ask find\n    answer it\nscreen\n  cell x 0\n  show x\n  deed type\n    ask find 0\n  answer find\n    set x it')
        self.same(steady(box, 1), ('steady', ((((), (0,), (), ()), (0,)), (((), (0,), (), (('find', 0, 'answered', 0, 'live', ()),)), (0,)), (((), (0,), (), (('find', 0, 'out', 0, 'live', ()),)), (0,)))))

    def test_needed(self):
        find = Program('\n'.join(['worths 3', 'house', '  ask find', '    answer it', 'screen', '  cell x 0', '  show x', '  deed type upto 2', '    ask find it', '  answer find', '    set x it']))
        self.same(needed(find, 2, ('rests',), (('deed', 'type', 1), ('deed', 'type', 1), ('deed', 'type', 2)))[:3], ('deeds', (0, 2), 'rests'))

    def test_bad_deeds(self):
        program = Program('\n'.join(['worths 3', 'house', '  ask find', '    answer it', 'screen', '  cell x 0', '  show x', '  take find last', '  deed type upto 2', '    ask find it', '  answer find', '    set x it']))
        with self.assertRaises(BadDeeds) as caught:
            needed(program, 2, ('rests',), (('deed', 'type', 1), ('deed', 'type', 3)))
        self.same(caught.exception.value, (('deed', 'type', 1), ('deed', 'type', 3)))

    def test_changing_and_barred(self):
        rows = ['worths 2', 'house', '  ask find', '    answer it', 'screen', '  cell seen 0']
        ends = ['  deed pick upto 1', '    ask find it', '  answer find']
        elder = Program('\n'.join(rows + ['  show seen', '  take find last'] + ends + ['    set seen it']))
        newer = Program('\n'.join(rows + ['  cell want 0', '  show seen'] + ends[:1] + ['    set want it'] + ends[1:] + ['    if asked = want', '      set seen it']))
        self.same([changing((elder, newer), 2, ('rests',))[:2], barred((elder, newer), 2, ('rests',), (3,))[:3]], [('wrong', 'rests'), ('bars', 3, ('find',))])

    def test_shows_changing(self):
        rows = ['worths 2', 'house', '  ask find', '    answer it', 'screen', '  cell seen 0']
        ends = ['  deed pick upto 1', '    ask find it', '  answer find']
        elder = Program('\n'.join(rows + ['  show seen', '  take find last'] + ends + ['    set seen it']))
        newer = Program('\n'.join(rows + ['  cell want 0', '  show seen'] + ends[:1] + ['    set want it'] + ends[1:] + ['    if asked = want', '      set seen it']))
        story = (('deed', 'pick', 1), ('over',), ('does', 0), ('comes', 0))
        told = ('wrong', 'rests', story)
        self.same([changing((elder, newer), 2, ('rests',), bars=('find',))[0], shows_changing((elder, newer), 2, ('rests',), told), shows_changing((elder, newer), 2, ('rests',), told, bars=('find',))], ['let', True, False])

    def test_unfit(self):
        find = Program('\n'.join(['worths 2', 'house', '  ask find', '    answer it', 'screen', '  cell x 0', '  show x', '  deed type upto 1', '    ask find it', '  answer find', '    set x it']))
        with self.assertRaises(Unfit) as caught:
            changing((find, find), 2, ('rests',))
        self.same(caught.exception.number, 0)

    def test_bad_prices(self):
        rows = ['worths 2', 'house', '  ask find', '    answer it', 'screen', '  cell seen 0']
        ends = ['  deed pick upto 1', '    ask find it', '  answer find']
        elder = Program('\n'.join(rows + ['  show seen', '  take find last'] + ends + ['    set seen it']))
        newer = Program('\n'.join(rows + ['  cell want 0', '  show seen'] + ends[:1] + ['    set want it'] + ends[1:] + ['    if asked = want', '      set seen it']))
        with self.assertRaises(BadPrices) as caught:
            barred((elder, newer), 2, ('rests',), (0,))
        self.same(caught.exception.value, (0,))

    def test_keeper(self):
        keeper = Keeper(Program('\n'.join(['worths 3', 'house', '  ask find', '    answer it', 'screen', '  cell x 0', '  show x', '  deed type upto 2', '    ask find it', '  answer find', '    set x it'])), 2)
        self.same([keeper.do(('deed', 'type', 1)), keeper.do(('deed', 'type', 2)), keeper.outlook()[0]], [(0,), (0,), 'open'])
        self.same([keeper.do(move) for move in (('does', 0), ('does', 1), ('comes', 1), ('comes', 0))], [(0,), (0,), (2,), (1,)])
        self.same([keeper.plain_shown, keeper.wrongs(), keeper.missing(((('take', 'find', 'last'), 1),), ('rests',))[:2]], [(2,), ((6, 'elder'),), ('choice', 1)])

    def test_exchange(self):
        rows = ['worths 3', 'house', '  ask save', '    answer it', 'screen', '  cell c 0', '  show c', '  send save queued', '  deed pick upto 2', '    ask save it guess c = it']
        elder, newer = Program('\n'.join(rows)), Program('\n'.join(rows[:7] + ['  back c redone'] + rows[8:]))
        keeper = Keeper(elder, 3)
        [keeper.do(('deed', 'pick', 1)), keeper.do(('deed', 'pick', 2)), keeper.stand[3]]
        self.same([keeper.exchange(newer), keeper.stand, keeper.plain], [(2,), ((), ((2, ()),), (), (('save', 1, 'out', 0, 'live', ()), ('save', 2, 'out', 0, 'live', ()))), ((), (2,))])

    def test_texts(self):
        self.same([read_story('deed type 1\nsends 0\nover'), show_story((('deed', 'type', 0), ('comes', 12))), read_story('')], [(('deed', 'type', 1), ('sends', 0), ('over',)), 'deed type\ncomes 12', ()])

    def test_desk(self):
        rows = ['worths 2', 'house', '  ask find', '    answer it', 'screen', '  cell x 0', '  show x', '  deed type upto 1', '    ask find it', '  answer find', '    set x it']
        desk = Desk('\n'.join(['many 2', 'program'] + ['  ' + row for row in rows] + ['story', '  deed type 1']))
        self.same([desk.say(line) for line in ('tasks', 'deed type', 'does 0', 'tasks', 'shown', 'plain', 'outlook')], ['find 1 out 0 live', '0', '0', 'find 1 answered 1 live; find 0 out 0 live', '0', '0', 'open 0; 1'])


if __name__ == "__main__":
    unittest.main()
