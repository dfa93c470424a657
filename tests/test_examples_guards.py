"""The examples of sections 9 to 11 of the document, as they stand there."""

import unittest

from lastasked.counting import ever, least_many, shows_ever
from lastasked.errors import BadGuards, NotCounted
from lastasked.fronts import front
from lastasked.guards import guarded, with_guards
from lastasked.lasting import lasting, shows_lasting
from lastasked.programs import Program


class Examples(unittest.TestCase):
    def same(self, got, wanted):
        self.assertEqual(repr(got), repr(wanted))

    def test_ever_and_least_many(self):
        rows = ['worths 3', 'house', '  ask find', '    answer it', 'screen', '  cell x 0', '  show x', '  deed type upto 2', '    ask find it', '  answer find', '    set x it']
        find, last = Program('\n'.join(rows)), Program('\n'.join(rows[:7] + ['  take find last'] + rows[7:]))
        self.same([len(ever(find)[1]), ever(find)[2], ever(last)[0], least_many(find, 3)[:2]], [4, 'elder', 'right', ('from', 2)])

    def test_rows(self):
        box = Program('worths 2\nhouse\n  ask find\n    answer it\nscreen\n  cell x 0\n  show x\n  deed type\n    ask find 0\n  answer find\n    set x it')
        found = ever(box)
        self.same([found[0], len(found[1]), found[1][0][1], shows_ever(box, found)], ['right', 2, ((('find', 0, 'answered', 0, 'live', ()), 0), (('find', 0, 'out', 0, 'live', ()), 0)), True])

    def test_not_counted(self):
        with self.assertRaises(NotCounted) as caught:
            ever(Program('worths 2\nhouse\n  ask find\n    answer it\nscreen\n  cell x 0\n  show x\n  take find rising\n  deed type\n    ask find 0'))
        self.same(caught.exception.line, 8)

    def test_lasting(self):
        find = Program('\n'.join(['worths 3', 'house', '  ask find', '    answer it', 'screen', '  cell x 0', '  show x', '  deed type upto 2', '    ask find it', '  answer find', '    set x it']))
        some = [find] + [with_guards(find, (('take', 'find', word),)) for word in ('rising', 'last')]
        self.same([lasting(one, 2)[0] for one in some], ['most', 'most', 'endless'])
        self.same([lasting(one, 2, hands=False)[1] for one in some], [2, 1, 1])

    def test_shows_lasting(self):
        program = Program('\n'.join(['worths 3', 'house', '  ask find', '    answer it', 'screen', '  cell x 0', '  show x', '  take find last', '  deed type upto 2', '    ask find it', '  answer find', '    set x it']))
        value = ('endless', (('deed', 'type', 1),), (('deed', 'type', 1), ('does', 0), ('comes', 0)))
        self.same([shows_lasting(program, 2, value), shows_lasting(program, 1, value), shows_lasting(program, 2, value, hands=False)], [True, False, False])

    def test_never_endless(self):
        one = Program('worths 2\nhouse\n  ask find\n    answer it\nscreen\n  cell x 0\n  show x\n  send find one\n  deed type upto 1\n    ask find it\n  answer find\n    set x it')
        self.same([lasting(one, 1)[:2], lasting(one, 1, hands=False)[:2], shows_lasting(one, 1, ('endless', (), ()))], [('most', 1), ('most', 1), False])

    def test_guarded_and_front(self):
        find = Program('\n'.join(['worths 3', 'house', '  ask find', '    answer it', 'screen', '  cell x 0', '  show x', '  deed type upto 2', '    ask find it', '  answer find', '    set x it']))
        found = guarded(find, ((('send', 'find', 'one'), 1), (('take', 'find', 'last'), 2)), 2, ('rests',))
        self.same([found[:3], [row[0] for row in found[4]]], [('choice', 2, (('take', 'find', 'last'),)), [(), (('send', 'find', 'one'),)]])
        self.same(front(find, ((('off', 'type', 'find'), 2), (('take', 'find', 'last'), 1)), 2, ('rests',))[1], ((1, 1, (('take', 'find', 'last'),)), (2, 0, (('off', 'type', 'find'),))))

    def test_with_guards(self):
        find = Program('\n'.join(['worths 2', 'house', '  ask find', '    answer it', 'screen', '  cell x 0', '  show x', '  deed type upto 1', '    ask find it', '  answer find', '    set x it']))
        more = with_guards(find, (('back', 'x', 'redone'), ('forget', 'type', 'find'), ('guess', 9, 'x', '=', 'it'), ('keep', 'find', 'only'), ('off', 'type', 'find'), ('order',)))
        self.same([more.in_order, more.asks, more.cells, more.text.split('\n')[8:14]], [True, (('find', 'any', 'many', 'only'),), (('x', 0, 'redone'),), ['  keep find only', '  back x redone', '  deed type upto 1', '    forget find', '    off find', '    ask find it guess x = it']])

    def test_bad_guards(self):
        find = Program('\n'.join(['worths 2', 'house', '  ask find', '    answer it', 'screen', '  cell x 0', '  show x', '  deed type upto 1', '    ask find it', '  answer find', '    set x it']))
        with self.assertRaises(BadGuards) as caught:
            with_guards(find, (('take', 'find', 'any'),))
        self.same(caught.exception.value, (('take', 'find', 'any'),))


if __name__ == "__main__":
    unittest.main()
