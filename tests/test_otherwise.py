"""Points [12] and [3](i): programs put otherwise, in part, or side by side."""

import itertools
import random
import unittest

from downweigh.errors import NoNumber, NoOrder, NoProgram, NoRow, TooMany, Unlike
from downweigh.otherwise import beside, numbers_ordered, part_of, places_ordered
from downweigh.programs import look_at
from downweigh.walks import Walk
from tests.things import (
    LOOP, Sour, all_own, both_ways, kept_as_is, no_programs, odd_things, refused, some_numbers, some_program, spoil,
    takes_programs_alone)

LONG = 10 ** 40
THREE = (["x", "y", "z"], ["a", "b", "c"], [
    (0, 1, [("least", [7, 1, 2, 3, 4, 5, 6])]), (2, 2, []), (1, 0, [("just", [0, 0, 0, -1, 0, LONG, 0]), ("least", [-7] * 7)]),
])


def shared():
    """A program in which rows, wishes and lines are one thing."""
    line = [1, -1, 1]
    wishes = [("least", line), ("least", line)]
    row = (0, 0, wishes)
    return (["x"], ["a", "b"], [row, row, (1, 0, wishes)])


def turned(order):
    """The order that moves all back."""
    told = [0] * len(order)
    for at, to in enumerate(order):
        told[to] = at
    return told


def behind(first, second):
    """The one order that does what two do, one behind the other."""
    return [second[to] for to in first]


class Orders(unittest.TestCase):
    def test_places(self):
        told = both_ways(self, places_ordered, program=THREE, order=[1, 2, 0])
        self.assertEqual(told, (["x", "y", "z"], ["c", "a", "b"], [(1, 2, THREE[2][0][2]), (0, 0, []), (2, 1, THREE[2][2][2])]))

    def test_numbers(self):
        told = both_ways(self, numbers_ordered, program=THREE, order=[1, 2, 0])
        self.assertEqual(told, (["z", "x", "y"], ["a", "b", "c"], [
            (0, 1, [("least", [7, 3, 1, 2, 6, 4, 5])]), (2, 2, []),
            (1, 0, [("just", [0, -1, 0, 0, 0, 0, LONG]), ("least", [-7] * 7)])]))

    def test_nothing_moved(self):
        dice = random.Random(1)
        for turn in range(50):
            program = some_program(dice)
            self.assertEqual(places_ordered(program, list(range(len(program[1])))), program)
            self.assertEqual(numbers_ordered(program, list(range(len(program[0])))), program)

    def test_moved_back_and_one_behind_the_other(self):
        dice = random.Random(2)
        for turn in range(100):
            program = some_program(dice)
            for call, many in ((places_ordered, len(program[1])), (numbers_ordered, len(program[0]))):
                one, other = list(range(many)), list(range(many))
                dice.shuffle(one)
                dice.shuffle(other)
                once = call(program, one)
                self.assertIsNone(look_at(once))
                self.assertEqual(call(once, turned(one)), program)
                self.assertEqual(call(once, other), call(program, behind(one, other)))

    def test_both_orders_don_t_mind_each_other(self):
        for order in itertools.permutations(range(3)):
            for other in itertools.permutations(range(3)):
                one = numbers_ordered(places_ordered(THREE, list(order)), list(other))
                self.assertEqual(one, places_ordered(numbers_ordered(THREE, list(other)), list(order)))

    def test_what_is_no_order(self):
        for order in ([], [0], [0, 1], [0, 1, 2, 3], [0, 0, 1], [0, 1, 1], [1, 2, 3], [0, 1, 3], [-1, 0, 1], [0, 1, -1],
                      (0, 1, 2), [False, True, 2], [0, True, 2], [0, 1, 2.0], [0, 1, "2"], [0, 1, None], [0, 1, [2]], "012",
                      {0: 0, 1: 1, 2: 2}, range(3), [0, 1, LONG], [0, 1, Sour()], [Sour(), Sour(), Sour()], [(0,), 1, 2]):
            refused(self, NoOrder, places_ordered, THREE, order)
            refused(self, NoOrder, numbers_ordered, THREE, order)
        for order in [*odd_things(), [True], [1], [-1], [0, 0]]:
            refused(self, NoOrder, places_ordered, LOOP, order)
            refused(self, NoOrder, numbers_ordered, LOOP, order)

    def test_the_order_is_of_places_or_of_numbers(self):
        program = (["x", "y"], ["a"], [])
        self.assertEqual(numbers_ordered(program, [1, 0]), (["y", "x"], ["a"], []))
        refused(self, NoOrder, places_ordered, program, [1, 0])
        self.assertEqual(places_ordered(program, [0]), program)
        refused(self, NoOrder, numbers_ordered, program, [0])

    def test_what_is_no_program_goes_first(self):
        for call in (places_ordered, numbers_ordered):
            takes_programs_alone(self, lambda thing: call(thing, [0]))
            takes_programs_alone(self, lambda thing: call(thing, None))
            takes_programs_alone(self, lambda thing: call(program=thing, order=Sour()))

    def test_the_askers_own(self):
        for call, order in ((places_ordered, [1, 0]), (places_ordered, [0, 1]), (numbers_ordered, [0])):
            program = shared()
            told = kept_as_is(self, call, program, order)
            all_own(self, told, program, order)
            wanted = call(shared(), list(order))
            spoil((program, order))
            self.assertEqual(told, wanted)


class Parts(unittest.TestCase):
    def test_parts(self):
        names, places, rows = THREE
        for numbers in ([], [0], [1], [2], [0, 1], [0, 2], [1, 2], [0, 1, 2]):
            told = both_ways(self, part_of, program=THREE, rows=numbers)
            self.assertEqual(told, (names, places, [rows[number] for number in numbers]))

    def test_a_part_of_a_part(self):
        dice = random.Random(3)
        for turn in range(60):
            program = some_program(dice)
            many = len(program[2])
            first = sorted(dice.sample(range(many), dice.randint(0, many)))
            second = sorted(dice.sample(range(len(first)), dice.randint(0, len(first))))
            self.assertEqual(part_of(part_of(program, first), second), part_of(program, [first[at] for at in second]))
            self.assertEqual(part_of(program, list(range(many))), program)
            self.assertEqual(part_of(program, []), (program[0], program[1], []))

    def test_without_rows(self):
        program = (["x"], ["a"], [])
        self.assertEqual(part_of(program, []), program)
        self.assertIsNone(refused(self, NoRow, part_of, program, [0]).row)

    def test_what_is_no_such_list(self):
        for rows in ([1, 0], [0, 0], [0, 2, 1], [0, 1, 1], [3], [0, 3], [-1], [-1, 0], [True], [0, True], [False], (0, 1), (),
                     [0, 1, 2, 3], [1.0], ["0"], [None], [[0]], "0", {0: 1}, range(2), 0, None, [LONG], [Sour()], [0, Sour()],
                     [Sour(), 0], [0, "1"]):
            self.assertIsNone(refused(self, NoRow, part_of, THREE, rows).row)
        for rows in odd_things():
            self.assertIsNone(refused(self, NoRow, part_of, THREE, rows).row)

    def test_what_is_no_program_goes_first(self):
        takes_programs_alone(self, lambda thing: part_of(thing, []))
        takes_programs_alone(self, lambda thing: part_of(thing, Sour()))

    def test_the_askers_own(self):
        program, numbers = shared(), [0, 1, 2]
        told = kept_as_is(self, part_of, program, numbers)
        all_own(self, told, program, numbers)
        spoil((program, numbers))
        self.assertEqual(told, shared())


class Beside(unittest.TestCase):
    def test_side_by_side(self):
        one = (["x"], ["a", "b"], [(0, 1, [("just", [1, -1, 1])]), (1, 0, [])])
        other = (["y"], ["c"], [(0, 0, [("least", [-1, 1, 0])])])
        wanted = (["x"], ["a", "b", "c"], [*one[2], (2, 2, [("least", [-1, 1, 0])])])
        self.assertEqual(both_ways(self, beside, one=one, other=other), wanted)
        self.assertEqual(beside(other, one), (["y"], ["c", "a", "b"], [
            (0, 0, [("least", [-1, 1, 0])]), (1, 2, [("just", [1, -1, 1])]), (2, 1, [])]))
        self.assertEqual(beside(one=one, other=other, places=3, rows=3), wanted)
        self.assertEqual(beside(one, other, rows=3), wanted)
        with self.assertRaises(TypeError):
            beside(one, other, 3, 3)

    def many(self, places, rows, letter):
        return (["x"], [letter * (at + 1) for at in range(places)], [(places - 1, 0, [])] * rows)

    def test_the_mosts(self):
        told = beside(self.many(3, 5, "a"), self.many(3, 5, "b"))
        self.assertEqual((len(told[1]), len(told[2]), told[2][4][:2], told[2][5][:2]), (6, 10, (2, 0), (5, 3)))
        self.assertIsNone(look_at(told))
        for one, other in (((3, 5), (4, 5)), ((3, 5), (3, 6)), ((6, 0), (1, 0)), ((1, 10), (1, 1)), ((6, 10), (6, 10))):
            refused(self, TooMany, beside, self.many(*one, "a"), self.many(*other, "b"))
        for places in range(2, 7):
            for rows in range(1, 11):
                one, other = self.many(places - 1, rows - 1, "a"), self.many(1, 1, "b")
                self.assertEqual(len(beside(one, other, places=places, rows=rows)[2]), rows)
                if rows > 1:
                    refused(self, TooMany, beside, one, other, places=places, rows=rows - 1)
                refused(self, TooMany, beside, one, other, places=places - 1, rows=rows)
        refused(self, TooMany, beside, self.many(1, 0, "a"), self.many(1, 0, "b"), places=1)

    def test_unlike(self):
        one = self.many(2, 1, "a")
        two_numbers = (["x", "y"], ["b"], [])
        for other in (two_numbers, one, self.many(1, 1, "a"), (["x"], ["b", "aa"], []), (["x", "y", "z"], ["b"], [])):
            refused(self, Unlike, beside, one, other)
            refused(self, Unlike, beside, other, one)
            # ahead of too many
            refused(self, Unlike, beside, one, other, places=1, rows=1)
        # a place may be called like a number, and the numbers may have other names
        self.assertEqual(beside(one, (["y"], ["x"], [])), (["x"], ["a", "aa", "x"], [(1, 0, [])]))

    def test_mosts_of_anything(self):
        one, other, unlike = self.many(1, 0, "a"), self.many(1, 0, "b"), (["x", "y"], ["a"], [])
        for thing in [*odd_things(), 0, -1, LONG, -LONG]:
            for second in (other, one, unlike):
                told = refused(self, NoNumber, beside, one, second, places=thing)
                self.assertIs(told.thing, thing)
                told = refused(self, NoNumber, beside, one, second, rows=thing)
                self.assertIs(told.thing, thing)
                told = refused(self, NoNumber, beside, one, second, places=thing, rows=Sour())
                self.assertIs(told.thing, thing)
        self.assertEqual(refused(self, NoNumber, beside, one, other, places=7, rows=11).thing, 7)
        self.assertEqual(refused(self, NoNumber, beside, one, other, rows=11, places=7).thing, 7)
        self.assertEqual(refused(self, NoNumber, beside, one, other, rows=11).thing, 11)
        self.assertEqual(refused(self, NoNumber, beside, one, other, places=7).thing, 7)

    def test_what_is_no_program_goes_first(self):
        for call in (lambda thing: beside(thing, LOOP), lambda thing: beside(LOOP, thing),
                     lambda thing: beside(thing, None), lambda thing: beside(LOOP, thing, places=0, rows=None)):
            takes_programs_alone(self, call)
        for one, part, number in no_programs():
            told = refused(self, NoProgram, beside, one, (["x"], ["a"], [None]), places=0)
            self.assertEqual((told.part, told.number), (part, number))

    def test_the_askers_own(self):
        one = shared()
        other = (["x"], ["c"], one[2][:1])
        told = kept_as_is(self, beside, one, other)
        all_own(self, told, one, other)
        again = beside(one, other)
        spoil((one, other))
        self.assertEqual(told, again)


class Alike(unittest.TestCase):
    """Point [3](i): what leads where doesn't hang on how a program is put."""

    def test_orders(self):
        dice = random.Random(4)
        for turn in range(120):
            program = some_program(dice, most_wishes=3, size=1)
            places, numbers = list(range(len(program[1]))), list(range(len(program[0])))
            dice.shuffle(places)
            dice.shuffle(numbers)
            walk = Walk(program, dice.randrange(len(places)), some_numbers(dice, len(numbers)))
            other = Walk(places_ordered(program, places), places[walk.here()], walk.numbers())
            state = [walk.numbers()[at] for at in turned(numbers)]
            third = Walk(numbers_ordered(program, numbers), walk.here(), state)
            self.assertEqual(walk.leading(), other.leading())
            self.assertEqual(walk.leading(), third.leading())
            for row in walk.leading():
                behind_it = walk.leads(row)
                self.assertEqual(other.twin().step(row, behind=behind_it), behind_it)
                moved = [behind_it[at] for at in turned(numbers)]
                self.assertEqual(third.twin().step(row, behind=moved), moved)

    def test_parts_and_side_by_side(self):
        dice = random.Random(5)
        for turn in range(120):
            program = some_program(dice, most_rows=5, most_wishes=3, size=1)
            if len(program[1]) > 5:
                continue
            other = (program[0], ["other"], [(0, 0, [])])
            walk = Walk(program, dice.randrange(len(program[1])), some_numbers(dice, len(program[0])))
            right = Walk(beside(program, other), walk.here(), walk.numbers())
            left = Walk(beside(other, program), walk.here() + 1, walk.numbers())
            self.assertEqual(walk.leading(), right.leading())
            self.assertEqual(walk.leading(), [row - 1 for row in left.leading()])
            rows = sorted(dice.sample(range(len(program[2])), dice.randint(0, len(program[2]))))
            part = Walk(part_of(program, rows), walk.here(), walk.numbers())
            self.assertEqual([rows[at] for at in part.leading()], [row for row in walk.leading() if row in rows])


if __name__ == "__main__":
    unittest.main()
