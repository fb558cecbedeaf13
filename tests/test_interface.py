"""The interface: all names, their arguments and what may be left out, as they are told there."""

import importlib
import inspect
import unittest

FUNCTIONS = {
    "numbers": ("is_whole(thing)", "is_fraction(thing)", "fraction(top, bottom=1)", "plus(one, other)", "minus(one, other)",
                "times(one, other)", "over(one, other)", "is_below(one, other)", "whole_part(one)", "shown(one)",
                "read_fraction(text)"),
    "wishes": ("is_line(many, thing)", "is_wish(many, thing)", "worth(line, numbers)", "grants(wishes, numbers)"),
    "shares": ("added(wishes, shares)", "carries(wishes, line, thing)"),
    "linetexts": ("shown_line(names, line)", "shown_wish(names, wish)", "read_line(names, text)", "read_wish(names, text)"),
    "balance": ("balance(columns, goal)", "lets_balance(columns, goal, thing)"),
    "follows": ("granted(many, wishes)", "follows(many, wishes, line)", "lets_granted(many, wishes, thing)",
                "lets_follows(many, wishes, line, thing)"),
    "programs": ("look_at(thing)",),
    "progtexts": ("shown_program(program)", "read_program(text)"),
    "otherwise": ("places_ordered(program, order)", "numbers_ordered(program, order)", "part_of(program, rows)",
                  "beside(one, other, *, places=6, rows=10)"),
    "kept": ("lets_kept(program, start, offered, part, thing)", "put_in(program, *, wishes)"),
    "lost": ("lets_lost(program, start, offered, thing)", "greatest(program, start, *, offered)"),
    "weighings": ("weighs(weighing, place, numbers)", "rise(program, weighing, row)", "fall(program, weighing, row)"),
    "ranks": ("left_by(program, never, ranks)", "lets_ranks(program, never, ranks)"),
    "mixtures": ("lets_mixture(program, rows, thing)", "barred(mixture)"),
    "settling": ("settled(program)", "sets_of(program)"),
    "bounds": ("most_steps(program, never, ranks, *, place=0, numbers)",),
    "rounds": ("lets_round(program, thing)", "gone(program, round_told, *, laps=1)", "mixture_of(program, round_told)",
               "round_of(program, rows)", "round_met(program, *, longest=6)"),
    "codes": ("look_at_code(names, thing)",),
    "making": ("made(names, code)",),
    "codetexts": ("shown_code(names, code)", "read_code(names, text)"),
}
CLASSES = {
    ("walks", "Walk"): ("__init__(self, program, place, numbers)", "step(self, row, *, behind=None)",
                        "go(self, steps, *, keep=False)", "undo(self)", "here(self)", "numbers(self)", "rows(self)",
                        "states(self)", "leads(self, row)", "leading(self)", "twin(self)", "__eq__(self, other)",
                        "__len__(self)", "__repr__(self)", "__str__(self)"),
    ("bench", "Bench"): ("__init__(self, program)", "put(self, row)", "take(self, number)", "change(self, number, wishes)", "undo(self)",
                         "ask(self)", "ask_with(self, rows)", "program(self)", "deeds(self)", "keeps(self)", "twin(self)",
                         "__eq__(self, other)", "__len__(self)", "__repr__(self)"),
    ("desk", "Desk"): ("__init__(self)", "say(self, row)"),
}
CONSTANTS = {("programs", "MOST_PLACES"): 6, ("programs", "MOST_ROWS"): 10, ("rounds", "LONGEST"): 6}


def module(name):
    return importlib.import_module("downweigh." + name)


class Interface(unittest.TestCase):
    def test_functions(self):
        for name, calls in FUNCTIONS.items():
            for call in calls:
                told = getattr(module(name), call.partition("(")[0])
                self.assertEqual(told.__name__ + str(inspect.signature(told)), call)
                self.assertEqual(told.__module__, "downweigh." + name)

    def test_constants(self):
        for (name, constant), wanted in CONSTANTS.items():
            told = getattr(module(name), constant)
            self.assertEqual((told, type(told)), (wanted, int))

    def test_methods_stand_in_the_class_itself(self):
        for (name, kind), calls in CLASSES.items():
            for call in calls:
                told = vars(getattr(module(name), kind))[call.partition("(")[0]]
                self.assertEqual(told.__name__ + str(inspect.signature(told)), call)


if __name__ == "__main__":
    unittest.main()
