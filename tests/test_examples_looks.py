"""The examples of sections 7 and 8 of the document, as they stand there."""

import unittest

from lastasked.errors import BadStory
from lastasked.guards import with_guards
from lastasked.led import led
from lastasked.moments import moments
from lastasked.plain import plain_after
from lastasked.programs import Program
from lastasked.rests import rests, shows_rests
from lastasked.stands import is_stand


class Examples(unittest.TestCase):
    def same(self, got, wanted):
        self.assertEqual(repr(got), repr(wanted))

    def test_plain_after(self):
        flip = Program('\n'.join(['worths 2', 'house', '  cell n 0', '  ask put', '    set n it', '    answer n', 'screen', '  cell v 0', '  show v', '  deed flip upto 1', '    ask put it', '  answer put', '    set v it']))
        self.same(plain_after(flip, ((0,), (0,)), 'flip', 1), (((1,), (1,)), ((0,), (1,))))

    def test_led(self):
        like = Program('\n'.join(['worths 4', 'house', '  ask like', '    if it = 2', '      refuse', '    answer it', 'screen', '  cell v 0', '  show v', '  back v redone', '  deed tap upto 3', '    ask like it guess v + it']))
        found = led(like, 2, (('deed', 'tap', 1), ('deed', 'tap', 2), ('does', 1), ('comes', 1)))
        self.same([found, is_stand(like, found[0]), is_stand(like, ((), ((0, (('add', 1, 1),)),)) + found[0][2:])], [(((), ((0, (('add', 1, 0),)),), (), (('like', 1, 'out', 0, 'live', ()),)), ((), (1,))), True, False])

    def test_bad_story(self):
        find = Program('worths 2\nhouse\n  ask find\n    answer it\nscreen\n  cell x 0\n  show x\n  deed type upto 1\n    ask find it\n  answer find\n    set x it')
        with self.assertRaises(BadStory) as caught:
            led(find, 1, (('deed', 'type', 1), ('deed', 'type', 0)))
        self.same(caught.exception.number, 2)

    def test_rests_and_moments(self):
        find = Program('\n'.join(['worths 3', 'house', '  ask find', '    answer it', 'screen', '  cell x 0', '  show x', '  deed type upto 2', '    ask find it', '  answer find', '    set x it']))
        rising, last = with_guards(find, (('take', 'find', 'rising'),)), with_guards(find, (('take', 'find', 'last'),))
        self.same([[rests(one, 2)[0], moments(one, 2)[0]] for one in (find, rising, last)], [['wrong', 'wrong'], ['right', 'wrong'], ['right', 'right']])
        self.same([len(rests(find, 2)[1]), len(moments(rising, 2)[1]), moments(rising, 2)[2]], [6, 4, 'elder'])
        kept = ['worths 3', 'house', '  ask save', '    if it = 2', '      refuse', 'screen', '  cell c 0', '  show c', '  deed pick upto 2', '    ask save it guess c = it']
        redone = kept[:8] + ['  back c redone'] + kept[8:]
        self.same([rests(Program('\n'.join(rows)), 2)[0] for rows in (kept, redone)], ['wrong', 'right'])

    def test_shows_rests(self):
        find = Program('worths 2\nhouse\n  ask find\n    answer it\nscreen\n  cell x 0\n  show x\n  deed type upto 1\n    ask find it\n  answer find\n    set x it')
        story = (('deed', 'type', 1), ('deed', 'type', 0), ('does', 0), ('does', 1), ('comes', 1), ('comes', 0))
        self.same([shows_rests(find, 2, ('wrong', story)), shows_rests(find, 1, ('wrong', story)), shows_rests(find, 2, ('wrong', story[:-1]))], [True, False, False])

    def test_stored_answers(self):
        flip = Program('worths 2\nhouse\n  cell n 0\n  ask flip\n    add n 1\n    answer n\nscreen\n  cell c 0\n  show c\n  keep flip only\n  deed push\n    ask flip 0\n  answer flip\n    set c it')
        push = ('deed', 'push', 0)
        self.same([led(flip, 1, (push, ('does', 0), ('comes', 0), push)), rests(flip, 1)[0], len(rests(flip, 1)[1])], [(((1,), (1,), (((0, 1),),), ()), ((0,), (0,))), 'wrong', 4])


if __name__ == "__main__":
    unittest.main()
