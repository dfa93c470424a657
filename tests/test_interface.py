"""The interface: names, files, parameters by position and by name."""

import inspect
import unittest

from lastasked import (
    counting, desk, errors, exchanging, fronts, guards, guesses, journals, keeper, lasting, led, moments, moves, plain, programs, rests, stands, steady,
    stories, texts)
from tests.helper import made

LISTED = {
    programs: {"Program": ["text"]},
    stands: {"first_stand": ["program"], "shown": ["program", "stand"], "is_stand": ["program", "value"]},
    moves: {"moves": ["program", "stand", "many"], "after": ["program", "stand", "move"]},
    plain: {"plain_first": ["program"], "plain_after": ["program", "plain", "name", "it"], "plain_shown": ["program", "plain"]},
    led: {"led": ["program", "many", "story"]},
    rests: {"rests": ["program", "many", "*houses", "*deeds"], "shows_rests": ["program", "many", "value", "*houses", "*deeds"]},
    moments: {"moments": ["program", "many", "*deeds"], "shows_moments": ["program", "many", "value", "*deeds"]},
    counting: {"ever": ["program"], "shows_ever": ["program", "value"], "least_many": ["program", "many"],
               "shows_least_many": ["program", "many", "value"]},
    lasting: {"lasting": ["program", "many", "*hands"], "shows_lasting": ["program", "many", "value", "*hands"]},
    guards: {"with_guards": ["program", "guards"], "guarded": ["program", "offers", "many", "looks", "*deeds"],
             "shows_guarded": ["program", "offers", "many", "looks", "value", "*deeds"]},
    fronts: {"front": ["program", "offers", "many", "looks"], "shows_front": ["program", "offers", "many", "looks", "value"]},
    guesses: {"upon": ["program", "many"], "shows_upon": ["program", "many", "value"]},
    steady: {"steady": ["program", "many"], "shows_steady": ["program", "many", "value"]},
    stories: {"needed": ["program", "many", "looks", "deeds"], "shows_needed": ["program", "many", "looks", "deeds", "value"]},
    exchanging: {"changing": ["programs", "many", "looks", "*bars"], "shows_changing": ["programs", "many", "looks", "value", "*bars"],
                 "barred": ["programs", "many", "looks", "prices"], "shows_barred": ["programs", "many", "looks", "prices", "value"]},
    keeper: {"Keeper": ["program", "many"], "shows_outlook": ["keeper", "value"]},
    texts: {"show_story": ["story"], "read_story": ["text"]}, journals: {"read_journal": ["text"]}, desk: {"Desk": ["text"]}}
METHODS = {
    keeper.Keeper: {"do": ["move"], "moves": [], "exchange": ["newer"], "undo": [], "redo": [], "wrongs": [], "outlook": [], "missing": ["offers", "looks"],
                    "trial": [], "tried": ["look", "*keep"], "copy": [], "__iter__": [], "__eq__": ["other"]},
    desk.Desk: {"say": ["line"]}, programs.Program: {"__eq__": ["other"]}}
PROPERTIES = {
    keeper.Keeper: ("program", "programs", "many", "stand", "plain", "shown", "plain_shown", "story", "journal"), desk.Desk: ("keeper",),
    programs.Program: ("text", "worths", "in_order", "house", "asks", "cells", "shows", "deeds")}
DEFAULTS = {"houses": False, "deeds": None, "hands": True, "bars": (), "keep": False}
FIND = ("worths 2", "house", "  ask find", "    answer it", "screen", "  cell x 0", "  show x", "  deed type upto 1",
        "    ask find it", "  answer find", "    set x it")


class Interface(unittest.TestCase):
    def test_defined_where_listed(self):
        for module, names in LISTED.items():
            for name, parameters in names.items():
                with self.subTest(name):
                    thing = getattr(module, name)
                    self.assertEqual(thing.__module__, module.__name__)
                    self.parameters(list(inspect.signature(thing).parameters.values()), parameters)

    def parameters(self, found, wanted):
        told = []
        for parameter in found:
            by_name = parameter.kind is parameter.KEYWORD_ONLY
            told.append("*" * by_name + parameter.name)
            if parameter.name in ("looks", "deeds") and not by_name:
                self.assertIs(parameter.default, parameter.empty)
            else:
                self.assertEqual(repr(parameter.default), repr(DEFAULTS[parameter.name] if by_name else parameter.empty))
        self.assertEqual(told, wanted)

    def test_methods_stand_in_their_class(self):
        for kind, methods in METHODS.items():
            for name, parameters in methods.items():
                with self.subTest(kind=kind, name=name):
                    self.assertIn(name, vars(kind))
                    self.parameters(list(inspect.signature(vars(kind)[name]).parameters.values())[1:], parameters)

    def test_properties_are_there_from_the_first(self):
        program = made(*FIND)
        one = keeper.Keeper(program, 2)
        for thing in (program, one, desk.Desk(one.journal)):
            for name in PROPERTIES[type(thing)]:
                self.assertTrue(hasattr(thing, name), name)

    def test_by_name(self):
        program = programs.Program(text="\n".join(FIND))
        stand = stands.first_stand(program=program)
        self.assertEqual(stand, ((), (0,), (), ()))
        self.assertEqual(stands.shown(program=program, stand=stand), (0,))
        self.assertIs(stands.is_stand(program=program, value=stand), True)
        self.assertEqual(moves.moves(program=program, stand=stand, many=1), (("deed", "type", 0), ("deed", "type", 1)))
        behind = moves.after(program=program, stand=stand, move=("deed", "type", 1))
        self.assertEqual(behind, ((), (0,), (), (("find", 1, "out", 0, "live", ()),)))

    def test_named_errors(self):
        program = made(*FIND)
        stand = stands.first_stand(program)
        with self.assertRaises(errors.BadText) as caught:
            programs.Program(text=None)
        self.assertEqual(caught.exception.line, 0)
        with self.assertRaises(errors.BadMany) as caught:
            moves.moves(program=program, stand=stand, many=5)
        self.assertEqual(caught.exception.value, 5)
        with self.assertRaises(errors.NoMove) as caught:
            moves.after(program=program, stand=stand, move=None)
        self.assertIsNone(caught.exception.value)

    def test_properties_are_set(self):
        program = made(*FIND)
        for name in ("text", "worths", "in_order", "house", "asks", "cells", "shows", "deeds"):
            self.assertTrue(hasattr(program, name), name)
        for name in ("house", "asks", "cells", "shows", "deeds"):
            self.assertIsInstance(getattr(program, name), tuple, name)
        self.assertIs(program.in_order, False)


if __name__ == "__main__":
    unittest.main()
