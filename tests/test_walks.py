"""Points [13] and [14]: walks."""

import random
import unittest

from downweigh.errors import Bare, NoNumbers, NoPlace, NoRow, NoStep
from downweigh.numbers import is_fraction
from downweigh.walks import Walk
from downweigh.wishes import grants
from tests.things import (
    DOWN, FROM_ONE, LOOP, STAYS, Sour, all_own, kept_as_is, odd_things, refused, some_numbers, some_program, spoil,
    takes_programs_alone)

LONG = 10 ** 40
# x is reckoned one less on row 0, chosen from nought to x on row 1, read on row 2, on row 3 both wished below
# and above nought; row 4 leads from the other place back
MANY = (["x"], ["a", "b"], [
    (0, 0, [FROM_ONE, DOWN]), (0, 1, [("least", [0, 1, -1]), ("least", [0, 0, 1])]), (0, 1, []),
    (0, 0, [("least", [-1, 0, 1]), ("least", [-1, 0, -1])]), (1, 0, [STAYS]),
])
TWO = (["x", "y"], ["top", "low"], [
    (0, 1, [("just", [0, 2, 0, -3, 0]), ("just", [0, 1, 1, 0, -1])]), (1, 0, [("least", [0, 0, 0, 1, -1])]),
])


def numbers(*wholes):
    return [(whole, 1) for whole in wholes]


def odd_numbers():
    """Things that are no list of one fraction; None is left out."""
    return [thing for thing in odd_things() if thing is not None] + [
        [], numbers(1, 2), ((1, 1),), [1], [(2, 2)], [(1, -1)], [(0, 0)], [(1, True)], [[1, 1]], "1", [(1, 1, 1)], [None]]


class Case(unittest.TestCase):
    def as_it_is(self, walk):
        """All that a walk tells of itself."""
        return (walk.here(), walk.numbers(), walk.rows(), walk.states(), walk.leading(), len(walk), repr(walk), str(walk))

    def refuses(self, walk, kind, call, *arguments, **named):
        """The refusal of a call, behind which the walk is as ahead of it."""
        ahead = self.as_it_is(walk)
        told = refused(self, kind, call, *arguments, **named)
        self.assertEqual(self.as_it_is(walk), ahead)
        return told


class Made(Case):
    def test_made(self):
        walk = Walk(MANY, 1, [(-7, 2)])
        self.assertEqual((walk.here(), walk.numbers(), walk.rows(), walk.states()), (1, [(-7, 2)], [], [(1, [(-7, 2)])]))
        other = Walk(program=MANY, place=1, numbers=[(-7, 2)])
        self.assertEqual(other, walk)

    def test_what_is_no_program(self):
        takes_programs_alone(self, lambda thing: Walk(thing, 0, numbers(0)))
        takes_programs_alone(self, lambda thing: Walk(thing, None, None))

    def test_what_is_no_place(self):
        for place in [*odd_things(), -1, 2, LONG, "a"]:
            told = refused(self, NoPlace, Walk, MANY, place, numbers(0))
            self.assertIs(told.place, place)
            self.assertIs(refused(self, NoPlace, Walk, MANY, place, Sour()).place, place)

    def test_what_are_no_numbers(self):
        for thing in [None, *odd_numbers()]:
            refused(self, NoNumbers, Walk, MANY, 0, thing)
        for thing in [*odd_things(), [], numbers(1), numbers(1, 2, 3), [(1, 1), 1], [(1, 1), (2, 2)]]:
            refused(self, NoNumbers, Walk, TWO, 0, thing)

    def test_what_is_handed_in_is_not_kept(self):
        line = [1, -1, 1]
        program = (["x"], ["a"], [(0, 0, [("least", line)]), (0, 0, [("just", line)])])
        place_numbers = numbers(3)
        walk = kept_as_is(self, Walk, program, 0, place_numbers)
        spoil((program, place_numbers))
        self.assertEqual(walk.numbers(), numbers(3))
        self.assertEqual(walk.leading(), [0, 1])
        self.assertEqual(walk.step(1), numbers(2))
        self.assertEqual(str(walk), "a: 2")
        behind = numbers(5)
        walk.step(0, behind=behind)
        steps = [(0, behind), (0, behind)]
        walk.go(steps)
        spoil((behind, steps))
        self.assertEqual(walk.states(), [(0, numbers(3)), (0, numbers(2))] + [(0, numbers(5))] * 3)
        all_own(self, walk.states())


class Steps(Case):
    def test_reckoned_chosen_read(self):
        walk = Walk(MANY, 0, numbers(2))
        self.assertEqual(walk.step(0), numbers(1))
        self.assertEqual((walk.here(), walk.numbers(), walk.rows()), (0, numbers(1), [0]))
        self.assertEqual(walk.step(row=0, behind=numbers(0)), numbers(0))
        self.assertEqual(walk.step(1, behind=None), numbers(0))
        self.assertEqual(walk.here(), 1)
        self.assertEqual(walk.step(4, behind=numbers(0)), numbers(0))
        told = walk.step(2)
        self.assertTrue(len(told) == 1 and is_fraction(told[0]))
        self.assertEqual((walk.here(), walk.numbers()), (1, told))
        walk.undo()
        self.assertEqual(walk.step(2, behind=[(-LONG, 7)]), [(-LONG, 7)])
        self.assertEqual(walk.rows(), [0, 0, 1, 4, 2])
        self.assertEqual(walk.states(), [(0, numbers(2)), (0, numbers(1)), (0, numbers(0)), (1, numbers(0)), (0, numbers(0)),
                                         (1, [(-LONG, 7)])])

    def test_chosen_numbers_handed_in(self):
        for number, leads in (((0, 1), True), ((3, 2), True), ((5, 2), True), ((51, 20), False), ((-1, 9), False)):
            walk = Walk(MANY, 0, [(5, 2)])
            if leads:
                self.assertEqual(walk.step(1, behind=[number]), [number])
            else:
                self.assertEqual(self.refuses(walk, NoStep, walk.step, 1, behind=[number]).row, 1)

    def test_reckoned_with_fractions(self):
        walk = Walk(TWO, 0, [(1, 2), (1, 3)])
        self.assertEqual(walk.step(0), [(1, 3), (5, 6)])
        told = walk.step(1)
        self.assertEqual(walk.here(), 0)
        self.assertTrue(grants([("least", [0, 1, -1])], told))

    def test_a_row_that_starts_elsewhere(self):
        walk = Walk(MANY, 0, numbers(2))
        self.assertEqual(self.refuses(walk, NoStep, walk.step, 4).row, 4)
        self.assertEqual(self.refuses(walk, NoStep, walk.step, 4, behind=numbers(2)).row, 4)
        self.assertIsNone(walk.leads(4))
        walk = Walk(MANY, 1, numbers(2))
        for row in range(4):
            self.assertEqual(self.refuses(walk, NoStep, walk.step, row).row, row)
            self.assertEqual(self.refuses(walk, NoStep, walk.step, row, behind=numbers(1)).row, row)
            self.assertIsNone(walk.leads(row))
        self.assertEqual(walk.leading(), [4])

    def test_numbers_to_which_it_does_not_lead(self):
        walk = Walk(MANY, 0, numbers(2))
        for behind in (numbers(2), numbers(0), [(1, 2)], numbers(-1)):
            self.assertEqual(self.refuses(walk, NoStep, walk.step, 0, behind=behind).row, 0)

    def test_a_row_that_leads_nowhere(self):
        walk = Walk(MANY, 0, [(1, 2)])
        for row in (0, 3):
            self.assertEqual(self.refuses(walk, NoStep, walk.step, row).row, row)
            self.assertEqual(self.refuses(walk, NoStep, walk.step, row, behind=[(-1, 2)]).row, row)
            self.assertIsNone(walk.leads(row))
        self.assertEqual(walk.leading(), [1, 2])

    def test_what_is_no_row(self):
        walk = Walk(MANY, 0, numbers(2))
        for row in [*odd_things(), -1, 5, LONG, "0"]:
            for call in (lambda: walk.step(row), lambda: walk.step(row, behind=numbers(1)), lambda: walk.leads(row),
                         lambda: walk.step(row, behind=Sour()), lambda: walk.go([(row, None)])):
                self.assertIs(self.refuses(walk, NoRow, call).row, row)

    def test_what_are_no_numbers_goes_ahead_of_no_step(self):
        walk = Walk(MANY, 0, numbers(2))
        for behind in odd_numbers():
            for row in (0, 3, 4):
                self.refuses(walk, NoNumbers, walk.step, row, behind=behind)
                self.refuses(walk, NoNumbers, walk.go, [(row, behind)])

    def test_behind_by_name_alone(self):
        walk = Walk(MANY, 0, numbers(2))
        self.refuses(walk, TypeError, walk.step, 0, numbers(1))
        self.refuses(walk, TypeError, walk.go, [], True)

    def test_leads_and_leading(self):
        walk = Walk(MANY, 0, numbers(1))
        self.assertEqual(walk.leading(), [0, 1, 2])
        self.assertEqual(walk.leads(row=0), numbers(0))
        self.assertEqual(len(walk), 0)
        walk.step(0)
        self.assertEqual(walk.leading(), [1, 2])
        self.assertIsNone(walk.leads(0))
        self.assertEqual(walk.leads(1), numbers(0))
        walk.step(1)
        self.assertEqual((walk.leading(), walk.leads(4)), ([4], numbers(0)))
        walk.undo()
        walk.undo()
        self.assertEqual((walk.leading(), walk.leads(0)), ([0, 1, 2], numbers(0)))
        self.assertEqual(Walk((["x"], ["a"], []), 0, numbers(1)).leading(), [])

    def test_long_numbers_and_twelve_wishes(self):
        up = [("least", [LONG + at, LONG, -LONG - at]) for at in range(11)]
        walk = Walk((["x"], ["a"], [(0, 0, [*up, ("least", [-1, 0, 1])])]), 0, [(LONG, 3)])
        self.assertEqual(walk.leading(), [0])
        told = walk.step(0)
        self.assertTrue(grants([*up, ("least", [-1, 0, 1])], [(LONG, 3), *told]))

    def test_all_steps_told_are_steps(self):
        dice = random.Random(13)
        done = refusals = 0
        for turn in range(150):
            program = some_program(dice, most_wishes=4, size=2)
            walk = Walk(program, dice.randrange(len(program[1])), some_numbers(dice, len(program[0])))
            for step in range(4):
                for row, (start, to, wishes) in enumerate(program[2]):
                    behind = walk.leads(row)
                    if behind is None:
                        refusals += 1
                        self.refuses(walk, NoStep, walk.step, row)
                    else:
                        self.assertEqual(walk.here(), start)
                        self.assertTrue(grants(wishes, walk.numbers() + behind))
                if not walk.leading():
                    break
                ahead = walk.states()
                row = dice.choice(walk.leading())
                behind = walk.step(row)
                done += 1
                self.assertEqual(walk.states(), [*ahead, (program[2][row][1], behind)])
        self.assertGreater(min(done, refusals), 100)


class Going(Case):
    GOOD = [(0, None), (0, numbers(1)), (1, None), (4, None), (2, numbers(-9))]

    def test_all_good(self):
        for keep in (True, False):
            walk = Walk(MANY, 0, numbers(3))
            told = kept_as_is(self, walk.go, self.GOOD, keep=keep)
            self.assertEqual(told[0:2] + told[4:], [numbers(2), numbers(1), numbers(-9)])
            self.assertEqual(told[2], told[3])
            self.assertEqual(walk.rows(), [0, 0, 1, 4, 2])
            self.assertEqual([state[1] for state in walk.states()], [numbers(3), *told])
            self.assertEqual(walk.go([], keep=keep), [])
            self.assertEqual(len(walk), 5)
        walk = Walk(MANY, 0, numbers(3))
        self.assertEqual(walk.go(steps=self.GOOD), told)
        walk.undo()
        self.assertEqual(walk.rows(), [0, 0, 1, 4])

    def test_one_refused_at_each_place(self):
        for step, kind, field in (((5, None), NoRow, 5), ((True, None), NoRow, True), (("a", Sour()), NoRow, "a"),
                                  ((0, []), NoNumbers, None), ((3, 7), NoNumbers, None), ((3, None), NoStep, 3),
                                  ((0, numbers(55)), NoStep, 0)):
            for at in range(len(self.GOOD) + 1):
                steps = [*self.GOOD[:at], step, *self.GOOD[at:]]
                walk = Walk(MANY, 0, numbers(4))
                walk.step(0)
                told = self.refuses(walk, kind, walk.go, steps)
                self.assertEqual(getattr(told, "row", None), field)
                told = self.refuses(walk, kind, walk.go, steps=steps, keep=False)
                wanted = walk.twin()
                wanted.go(steps[:at])
                told = refused(self, kind, walk.go, steps, keep=True)
                self.assertEqual(getattr(told, "row", None), field)
                self.assertEqual(self.as_it_is(walk), self.as_it_is(wanted))
                self.assertEqual(walk.rows(), [0, *[row for row, behind in steps[:at]]])

    def test_the_first_refused_one_is_told(self):
        walk = Walk(MANY, 0, numbers(3))
        self.assertEqual(self.refuses(walk, NoStep, walk.go, [(0, None), (3, None), (9, None)]).row, 3)
        self.assertEqual(self.refuses(walk, NoRow, walk.go, [(0, None), (9, None), (3, None)]).row, 9)

    def test_what_is_no_list_of_tuples_of_two(self):
        for keep in (True, False):
            walk = Walk(MANY, 0, numbers(3))
            walk.step(0)
            for steps in [*odd_things(), ((0, None),), [(0, None), [0, None]], [(0, None), 0], [(0, None), (0,)], [(0, None, 1)],
                          [(0, None), None], [(9, None), ()], "ab", {(0, None): 1}, [[0, None]], 0, (0, None)]:
                if isinstance(steps, list) and all(isinstance(step, tuple) and len(step) == 2 for step in steps):
                    continue
                self.refuses(walk, NoNumbers, walk.go, steps, keep=keep)

    def test_the_same_tuple_twice(self):
        step = (2, numbers(5))
        back = (4, None)
        walk = Walk(MANY, 0, numbers(3))
        told = walk.go([step, back, step, back])
        self.assertEqual(told, [numbers(5)] * 4)
        all_own(self, told, step, walk.states())


class Undone(Case):
    def test_until_bare(self):
        walk = Walk(MANY, 0, numbers(3))
        self.refuses(walk, Bare, walk.undo)
        seen = [self.as_it_is(walk)]
        for row in (0, 0, 2, 4, 1):
            walk.step(row)
            seen.append(self.as_it_is(walk))
        for wanted in reversed(seen):
            self.assertEqual(self.as_it_is(walk), wanted)
            if len(walk):
                self.assertIsNone(walk.undo())
        self.refuses(walk, Bare, walk.undo)
        self.refuses(walk, Bare, walk.undo)
        self.assertEqual(walk.step(0), numbers(2))

    def test_steps_gone_at_once_are_undone_one_by_one(self):
        walk = Walk(MANY, 0, numbers(3))
        walk.go([(0, None), (0, None)])
        walk.undo()
        self.assertEqual((walk.numbers(), walk.rows()), (numbers(2), [0]))


class Alike(Case):
    def test_alike_whatever_was_done(self):
        one = Walk(MANY, 0, numbers(2))
        other = Walk(MANY, 0, numbers(3))
        self.assertTrue(one != other and not one == other)
        other.step(0)
        self.assertTrue(one == other and not one != other)
        self.assertEqual((len(one), len(other)), (0, 1))
        other.undo()
        self.assertNotEqual(one, other)
        third = Walk((["x"], ["a", "b"], [(start, to, [(word, list(line)) for word, line in wishes])
                                          for start, to, wishes in MANY[2]]), 0, numbers(2))
        self.assertEqual(one, third)

    def test_unlike(self):
        walk = Walk(MANY, 0, numbers(2))
        names, places, rows = MANY
        for other in (
            Walk(MANY, 1, numbers(2)), Walk(MANY, 0, [(5, 2)]), Walk((["y"], places, rows), 0, numbers(2)),
            Walk((names, ["a", "c"], rows), 0, numbers(2)), Walk((names, places, rows[:4]), 0, numbers(2)),
            Walk((names, places, [*rows[:4], (1, 0, [])]), 0, numbers(2)), Walk((names, places, rows[::-1]), 0, numbers(2)),
            Walk(TWO, 0, numbers(2, 2)),
        ):
            self.assertTrue(walk != other and not walk == other and not other == walk)

    def test_beside_other_things(self):
        walk = Walk(MANY, 0, numbers(2))
        for thing in [*odd_things(), MANY, (0, numbers(2)), numbers(2), "a: 2", repr(walk), 0]:
            self.assertIs(walk == thing, False)
            self.assertIs(walk != thing, True)

    def test_len(self):
        walk = Walk(MANY, 0, numbers(3))
        self.assertEqual(len(walk), 0)
        walk.step(0)
        walk.go([(0, None), (2, None)])
        self.assertEqual(len(walk), 3)
        walk.undo()
        self.assertEqual(len(walk), 2)

    def test_repr_and_str(self):
        three = (["x", "y", "z"], ["abcdef", "b"], [(0, 1, [])])
        for program, place, state, text in (
            (MANY, 0, numbers(2), "a: 2"), (MANY, 1, [(-7, 2)], "b: -7/2"), (MANY, 0, numbers(0), "a: 0"),
            (three, 0, [(1, 2), (0, 1), (-5, 1)], "abcdef: 1/2, 0, -5"), (three, 1, [(LONG, 3), (-1, LONG), (1, 1)],
                                                                       f"b: {LONG}/3, -1/{LONG}, 1"),
        ):
            walk = Walk(program, place, state)
            self.assertEqual((str(walk), repr(walk)), (text, f"Walk({text})"))
        walk = Walk(three, 0, numbers(1, 2, 3))
        walk.step(0, behind=[(1, 2), (-1, 3), (4, 1)])
        self.assertEqual(repr(walk), "Walk(b: 1/2, -1/3, 4)")

    def test_a_twin(self):
        walk = Walk(MANY, 0, numbers(3))
        walk.go([(0, None), (0, None)])
        twin = walk.twin()
        self.assertIsInstance(twin, Walk)
        self.assertIsNot(twin, walk)
        self.assertEqual(twin, walk)
        self.assertEqual(self.as_it_is(twin), self.as_it_is(walk))
        ahead = self.as_it_is(walk)
        twin.step(0)
        self.assertEqual(self.as_it_is(walk), ahead)
        self.assertEqual((twin.rows(), twin.numbers()), ([0, 0, 0], numbers(0)))
        walk.undo()
        self.assertEqual((twin.rows(), twin.numbers()), ([0, 0, 0], numbers(0)))
        for step in range(3):
            twin.undo()
        self.assertEqual((twin.states(), walk.rows()), ([(0, numbers(3))], [0]))
        self.refuses(twin, Bare, twin.undo)
        walk.undo()
        self.refuses(walk, Bare, walk.undo)
        self.refuses(walk, Bare, walk.twin().undo)


class Own(Case):
    def test_told_lists_are_the_askers_own(self):
        walk = Walk(MANY, 0, numbers(3))
        tell = [walk.numbers, walk.rows, walk.states, walk.leading, lambda: walk.leads(1), lambda: walk.twin().states()]
        told = [walk.step(0), *walk.go([(0, None), (0, None)]), walk.go([])]
        for call in tell:
            told.append(call())
            told.append(call())
        all_own(self, told)
        ahead = self.as_it_is(walk)
        spoil(told)
        self.assertEqual(self.as_it_is(walk), ahead)
        for call in tell:
            spoil(call())
        self.assertEqual(self.as_it_is(walk), ahead)

    def test_told_lists_stay_as_they_are(self):
        walk = Walk(MANY, 0, numbers(3))
        told = [walk.numbers(), walk.rows(), walk.states(), walk.leading()]
        walk.step(0)
        walk.step(2)
        self.assertEqual(told, [numbers(3), [], [(0, numbers(3))], [0, 1, 2]])
        walk.undo()
        self.assertEqual(walk.states(), [(0, numbers(3)), (0, numbers(2))])

    def test_spoilt_numbers_behind_change_no_twin(self):
        walk = Walk(LOOP, 0, numbers(3))
        twin = walk.twin()
        spoil(walk.step(0))
        self.assertEqual((twin.numbers(), walk.numbers()), (numbers(3), numbers(2)))


if __name__ == "__main__":
    unittest.main()
