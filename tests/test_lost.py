"""Points [15], [17] and [3](g): the greatest kept part, and how all other offered wishes are lost."""

import itertools
import random
import unittest

from downweigh.errors import NoOffer, NoStart
from downweigh.kept import lets_kept, put_in
from downweigh.lost import greatest, lets_lost
from downweigh.otherwise import places_ordered
from downweigh.walks import Walk
from downweigh.wishes import grants
from tests.things import (
    DOWN, FROM_ONE, LOOP, STAYS, Sour, all_own, bent, both_ways, kept_as_is, odd_offers, odd_starts, odd_things,
    papers_by_follows, refused, some_numbers, some_offer, some_program, some_wishes, spoil, takes_programs_alone)

LONG = 10 ** 40
FROM_NOUGHT = ("least", [0, 1])
AT_MOST_FIVE = ("least", [5, -1])
AT_MOST_ONE = ("least", [1, -1])
NEVER = ("just", [1, 0, 0])
NEVER_HOLDS = ("least", [-1, 0])
# x falls from three on at a; row 1 leads to b and doubles it, row 2 leads back
PROGRAM = (["x"], ["a", "b"], [(0, 0, [FROM_ONE, DOWN]), (0, 1, [("just", [0, 2, -1])]), (1, 0, [STAYS, ("least", [1, 0, -1])])])
START = (0, [("just", [-3, 1])])
OFFERED = [[FROM_NOUGHT, AT_MOST_FIVE, AT_MOST_ONE], [FROM_NOUGHT, AT_MOST_FIVE]]
LOST = [(0, 2, None, [(3, 1)]), (1, 1, 1, [(5, 1), (10, 1)])]


def lost_of(told):
    return [(place, number) for place, number, row, numbers in told[2]]


class Case(unittest.TestCase):
    def look(self, program, start, offered, part=None):
        """What is told, after all of it is looked at; the part, where it is given, must be that one."""
        told = kept_as_is(self, greatest, program, start, offered=offered)
        self.assertEqual((type(told), len(told)), (tuple, 3))
        self.assertTrue(lets_kept(program, start, offered, told[0], told[1]))
        self.assertIs(kept_as_is(self, lets_lost, program, start, offered, told[2]), True)
        everyone = [(place, number) for place, wishes in enumerate(offered) for number in range(len(wishes))]
        kept = [(place, number) for place, numbers in enumerate(told[0]) for number in numbers]
        self.assertEqual(kept, sorted(set(kept)))
        self.assertEqual(sorted(kept + lost_of(told)), everyone)
        all_own(self, told, program, start, offered)
        if part is not None:
            self.assertEqual(told[0], part)
        return told


class Greatest(Case):
    def test_a_small_one(self):
        told = self.look(PROGRAM, START, OFFERED, [[0, 1], [0]])
        self.assertEqual([entry[:3] for entry in told[2]], [(0, 2, None), (1, 1, 1)])
        self.assertEqual(told[2][0][3], [(3, 1)])
        self.assertEqual(greatest(program=PROGRAM, start=START, offered=OFFERED), told)
        with self.assertRaises(TypeError):
            greatest(PROGRAM, START, OFFERED)

    def test_a_start_whose_wishes_can_t_be_granted(self):
        start = (0, [("just", [-3, 1]), ("just", [-4, 1])])
        told = self.look(PROGRAM, start, [[FROM_NOUGHT, AT_MOST_ONE], [FROM_NOUGHT]], [[0, 1], [0]])
        self.assertEqual(told[1][0][0], "none")
        # what can't begin may be lost by rows all the same, as a kept part is one of rows, too
        self.look(PROGRAM, start, [[], [AT_MOST_ONE]], [[], []])

    def test_a_row_that_never_goes(self):
        program = (["x"], ["a", "b"], [(0, 1, [NEVER])])
        told = self.look(program, (0, []), [[], [FROM_NOUGHT, ("least", [-1, 0])]], [[], [0, 1]])
        self.assertEqual(told[1][1][0][0], "none")
        program = (["x"], ["a", "b"], [(0, 1, [NEVER]), (0, 1, [])])
        self.look(program, (0, []), [[], [FROM_NOUGHT, ("least", [0, 0])]], [[], [1]])

    def test_a_row_that_goes_only_where_a_wish_is_lost(self):
        # while x from nought on is kept at a the row never goes; at the start it is lost, so the row's is, too
        program = (["x"], ["a", "b"], [(0, 1, [("least", [-1, -1, 0])])])
        self.look(program, (0, [FROM_NOUGHT]), [[FROM_NOUGHT], [AT_MOST_FIVE]], [[0], [0]])
        told = self.look(program, (0, []), [[FROM_NOUGHT], [AT_MOST_FIVE]], [[], []])
        self.assertEqual(lost_of(told), [(0, 0), (1, 0)])

    def test_no_offers_at_all(self):
        for program, offered in ((PROGRAM, [[], []]), (LOOP, [[]]), ((["x"], ["a"], []), [[]])):
            told = self.look(program, (0, []), offered, offered)
            self.assertEqual(told[2], [])

    def test_no_rows(self):
        program = (["x"], ["a", "b"], [])
        self.look(program, (1, [FROM_NOUGHT]), [[FROM_NOUGHT, NEVER_HOLDS], [FROM_NOUGHT, NEVER_HOLDS, AT_MOST_ONE]], [[0, 1], [0]])

    def test_six_offers_at_a_place(self):
        six = [("least", [at, -1]) for at in range(6)]
        told = self.look(LOOP, (0, [("least", [3, -1])]), [six], [[3, 4, 5]])
        self.assertEqual(sorted(lost_of(told)), [(0, 0), (0, 1), (0, 2)])

    def test_an_offer_twice(self):
        self.look(PROGRAM, START, [[FROM_NOUGHT, FROM_NOUGHT, AT_MOST_ONE, AT_MOST_ONE], [FROM_NOUGHT] * 2], [[0, 1], [0, 1]])
        # x at most five follows ahead of a row from itself alone: both stay, or both are lost
        program = (["x"], ["a"], [(0, 0, [("just", [1, 1, -1]), ("least", [3, -1, 0])])])
        self.look(program, (0, [("just", [0, 1])]), [[AT_MOST_FIVE, AT_MOST_FIVE]], [[0, 1]])
        told = self.look(program, (0, [("just", [0, 1])]), [[AT_MOST_ONE, AT_MOST_ONE]], [[]])
        self.assertEqual(sorted(lost_of(told)), [(0, 0), (0, 1)])

    def test_lost_only_behind_another_ones_loss(self):
        # y falls by x: y from nought on is kept while x at most nought is, which is kept while z is, and so on
        program = (["x", "y", "z"], ["a"], [(0, 0, [
            ("just", [0, 1, 0, 1, -1, 0, 0]), ("just", [0, -1, 1, 0, 0, -1, 0]), ("just", [1, 0, 0, 1, 0, 0, -1])])])
        x_low, y_from, z_low = ("least", [0, -1, 0, 0]), ("least", [0, 0, 1, 0]), ("least", [0, 0, 0, -1])
        start = (0, [("just", [0, 1, 0, 0]), ("just", [0, 0, 1, 0]), ("just", [0, 0, 0, 1])])
        told = self.look(program, start, [[y_from, x_low, z_low]], [[]])
        self.assertEqual(lost_of(told), [(0, 2), (0, 1), (0, 0)])
        # the later ones can't go first
        for order in itertools.permutations(told[2]):
            self.assertEqual(lets_lost(program, start, [[y_from, x_low, z_low]], list(order)), list(order) == told[2])
        # without z's growth all stay
        still = (program[0], ["a"], [(0, 0, program[2][0][2][:2] + [("just", [0, 0, 0, 1, 0, 0, -1])])])
        self.look(still, start, [[y_from, x_low, z_low]], [[0, 1, 2]])

    def test_lost_along_a_chain_of_places(self):
        # rows stand so that each loss is met only behind those of the rows behind it
        places = ["a", "b", "c", "d", "e", "f"]
        rows = [(at, at + 1, [STAYS]) for at in reversed(range(5))]
        program = (["x"], places, rows)
        told = self.look(program, (0, []), [[FROM_NOUGHT]] * 6, [[]] * 6)
        self.assertEqual(lost_of(told), [(at, 0) for at in range(6)])
        self.look(program, (0, [FROM_NOUGHT]), [[FROM_NOUGHT]] * 6, [[0]] * 6)
        self.look(program, (3, []), [[FROM_NOUGHT]] * 6, [[0]] * 3 + [[]] * 3)

    def test_in_another_order_of_places(self):
        part = greatest(PROGRAM, START, offered=OFFERED)[0]
        turned = places_ordered(PROGRAM, [1, 0])
        self.look(turned, (1, START[1]), OFFERED[::-1], part[::-1])
        dice = random.Random(3)
        for turn in range(40):
            program = some_program(dice, most_rows=5, most_wishes=3, size=2)
            start = (dice.randrange(len(program[1])), some_wishes(dice, len(program[0]), 3))
            offered = some_offer(dice, program)
            order = list(range(len(program[1])))
            dice.shuffle(order)
            told = self.look(program, start, offered)
            moved = [offered[order.index(at)] for at in range(len(order))]
            wanted = [told[0][order.index(at)] for at in range(len(order))]
            self.look(places_ordered(program, order), (order[start[0]], start[1]), moved, wanted)

    def test_long_numbers_and_the_mosts(self):
        wide = [("least", [LONG + at, -LONG, at, 1 - at, 0, LONG, -1]) for at in range(12)]
        program = (["x", "y", "z"], list("abcdef"), [(at % 6, (at + 1) % 6, wide) for at in range(10)])
        six = [("least", [LONG, at, -LONG, at]) for at in range(6)]
        self.look(program, (5, [("least", [at, LONG, -at, 7]) for at in range(12)]), [six] * 6)

    def test_it_is_the_greatest_of_all_kept_parts(self):
        dice = random.Random(17)
        full = bare = 0
        for turn in range(120):
            program = some_program(dice, most_rows=3, most_wishes=4, size=2)
            if len(program[1]) > 3:
                continue
            start = (dice.randrange(len(program[1])), some_wishes(dice, len(program[0]), 4, 2))
            offered = some_offer(dice, program, most=2)
            part = self.look(program, start, offered)[0]
            choices = [[list(some) for size in range(len(at) + 1) for some in itertools.combinations(range(len(at)), size)]
                       for at in offered]
            together = [set() for at in offered]
            for some in itertools.product(*choices):
                if papers_by_follows(program, start, offered, list(some)) is not None:
                    for held, numbers in zip(together, some):
                        held.update(numbers)
            self.assertEqual(part, [sorted(held) for held in together])
            full += any(part)
            bare += any(len(numbers) < len(wishes) for numbers, wishes in zip(part, offered))
        self.assertGreater(min(full, bare), 15)

    def test_it_holds_at_each_step_of_each_run(self):
        dice = random.Random(18)
        steps = 0
        for turn in range(200):
            program = some_program(dice, most_rows=6, most_wishes=3, size=1)
            start = (dice.randrange(len(program[1])), some_wishes(dice, len(program[0]), 2, 1))
            offered = some_offer(dice, program)
            part = greatest(program, start, offered=offered)[0]
            wishes = [[at[number] for number in numbers] for at, numbers in zip(offered, part)]
            walk = Walk(program, start[0], some_numbers(dice, len(program[0])))
            if not grants(start[1], walk.numbers()):
                continue
            narrow = Walk(put_in(program, wishes=wishes), walk.here(), walk.numbers())
            for step in range(4):
                self.assertTrue(grants(wishes[walk.here()], walk.numbers()))
                # with the kept wishes put in, the same rows lead to the same numbers
                self.assertEqual(walk.leading(), narrow.leading())
                if walk.leading():
                    row = dice.choice(walk.leading())
                    narrow.step(row, behind=walk.step(row))
                    steps += 1
        self.assertGreater(steps, 100)

    def test_the_askers_own(self):
        told = self.look(PROGRAM, START, OFFERED)
        again = greatest(PROGRAM, START, offered=OFFERED)
        spoil(told)
        self.assertEqual(greatest(PROGRAM, START, offered=OFFERED), again)
        # two wishes lost by the same numbers
        told = self.look(LOOP, (0, [("just", [-3, 1])]), [[AT_MOST_ONE, AT_MOST_ONE]], [[]])
        self.assertEqual(told[2][0][3], told[2][1][3])
        wish = ("least", [1, -1])
        shared = [wish, wish]
        program = (["x"], ["a", "b"], [(0, 1, []), (0, 1, [])])
        told = self.look(program, (0, []), [shared, shared], [[], []])
        wanted = greatest(program, (0, []), offered=[shared, shared])
        spoil((shared, program))
        self.assertEqual(told, wanted)


class Lost(unittest.TestCase):
    def lets(self, thing, program=PROGRAM, start=START, offered=OFFERED):
        told = lets_lost(program, start, offered, thing)
        self.assertIs(type(told), bool)
        return told

    def test_each_beginning(self):
        self.assertTrue(self.lets([]))
        self.assertTrue(self.lets(LOST[:1]))
        self.assertTrue(self.lets(LOST))
        # five is there ahead of the row only behind the loss of at most one
        self.assertFalse(self.lets(LOST[1:]))
        self.assertFalse(self.lets(LOST[::-1]))
        self.assertIs(both_ways(self, lets_lost, program=PROGRAM, start=START, offered=OFFERED, thing=LOST), True)
        dice = random.Random(19)
        for turn in range(60):
            program = some_program(dice, most_rows=4, most_wishes=3)
            start = (dice.randrange(len(program[1])), some_wishes(dice, len(program[0]), 2))
            offered = some_offer(dice, program)
            lost = greatest(program, start, offered=offered)[2]
            for size in range(len(lost) + 1):
                self.assertTrue(self.lets(lost[:size], program, start, offered))

    def test_a_tuple_twice(self):
        self.assertFalse(self.lets([LOST[0], LOST[0]]))
        self.assertFalse(self.lets([*LOST, LOST[0]]))
        self.assertFalse(self.lets([*LOST, (0, 2, 2, [(1, 1), (1, 1)])]))
        # also by other numbers
        self.assertTrue(self.lets([LOST[0], (1, 1, 1, [(4, 1), (8, 1)])]))
        self.assertFalse(self.lets([*LOST, (1, 1, 1, [(4, 1), (8, 1)])]))

    def test_at_the_start(self):
        for entry, wanted in (
            ((0, 2, None, [(3, 1)]), True), ((0, 2, None, [(4, 1)]), False), ((0, 0, None, [(3, 1)]), False),
            ((1, 0, None, [(3, 1)]), False), ((0, 3, None, [(3, 1)]), False), ((2, 0, None, [(3, 1)]), False),
            ((0, 2, None, []), False), ((0, 2, None, [(3, 1), (3, 1)]), False), ((0, 2, None, [(6, 2)]), False),
            ((0, 2, None, [3]), False), ((0, 2, None, ((3, 1),)), False), ((0, 2, None, None), False),
            ((False, 2, None, [(3, 1)]), False), ((0, 2, False, [(3, 1)]), False), ((-1, 2, None, [(3, 1)]), False),
            ((0, -1, None, [(3, 1)]), False), ((0, 2, None), False), ((0, 2, None, [(3, 1)], 1), False),
            ([0, 2, None, [(3, 1)]], False),
        ):
            self.assertIs(self.lets([entry]), wanted, entry)
        # worth just nought is granted
        self.assertFalse(self.lets([(0, 0, None, [(3, 1)])], offered=[[("least", [-3, 1])], []]))
        self.assertTrue(self.lets([(0, 0, None, [(3, 1)])], offered=[[("least", [-4, 1])], []]))
        # where it starts elsewhere, nothing is lost there at the start
        self.assertFalse(self.lets([(0, 2, None, [(3, 1)])], start=(1, START[1])))
        self.assertTrue(self.lets([(1, 1, None, [(9, 1)])], start=(1, [])))
        self.assertFalse(self.lets([(0, 2, None, [(3, 1)])], start=(0, [("just", [1, 0])])))

    def test_at_a_row(self):
        for entry, wanted in (
            ((1, 1, 1, [(5, 1), (10, 1)]), True), ((1, 1, 1, [(3, 1), (6, 1)]), True), ((1, 1, 1, [(5, 2), (5, 1)]), False),
            ((1, 1, 1, [(6, 1), (12, 1)]), False), ((1, 1, 1, [(5, 1), (9, 1)]), False), ((1, 0, 1, [(-1, 1), (-2, 1)]), False),
            ((1, 1, 0, [(5, 1), (10, 1)]), False), ((1, 1, 2, [(5, 1), (10, 1)]), False), ((1, 1, 3, [(5, 1), (10, 1)]), False),
            ((1, 1, -2, [(5, 1), (10, 1)]), False), ((1, 1, True, [(5, 1), (10, 1)]), False), ((1, 1, 1, [(10, 1)]), False),
            ((1, 1, 1, [(5, 1), (10, 1), (0, 1)]), False), ((1, 1, 1, ([(5, 1)], [(10, 1)])), False), ((1, 1, 1, None), False),
            ((1, 2, 1, [(5, 1), (10, 1)]), False), ((1, True, 1, [(5, 1), (10, 1)]), False), ((1, 1, 1, [(5, 1), (20, 2)]), False),
            ((True, 1, 1, [(5, 1), (10, 1)]), False), ((1, 1, "1", [(5, 1), (10, 1)]), False),
        ):
            # the third wish at a, at most one, is lost ahead: else five isn't there
            self.assertIs(self.lets([LOST[0], entry]), wanted, entry)

    def test_the_row_leads_to_the_place(self):
        program = (["x"], ["a", "b"], [(0, 1, []), (1, 0, [])])
        for place, row, wanted in ((0, 0, False), (0, 1, True), (1, 0, True), (1, 1, False)):
            entry = (place, 0, row, [(0, 1), (-1, 1)])
            self.assertIs(self.lets([entry], program, (0, []), [[FROM_NOUGHT], [FROM_NOUGHT]]), wanted)

    def test_the_wishes_ahead_that_are_not_lost_up_to_there(self):
        offered = [[AT_MOST_FIVE, AT_MOST_ONE], [AT_MOST_FIVE]]
        far = (1, 0, 1, [(4, 1), (8, 1)])
        self.assertFalse(self.lets([far], offered=offered))
        self.assertFalse(self.lets([far, (0, 1, None, [(3, 1)])], offered=offered))
        self.assertTrue(self.lets([(0, 1, None, [(3, 1)]), far], offered=offered))

    def test_the_wish_itself_is_not_lost_yet(self):
        up = (["x"], ["a"], [(0, 0, [("just", [1, 1, -1])])])
        start = (0, [("just", [0, 1])])
        self.assertTrue(self.lets([(0, 0, 0, [(5, 1), (6, 1)])], up, start, [[AT_MOST_FIVE]]))
        self.assertFalse(self.lets([(0, 0, 0, [(6, 1), (7, 1)])], up, start, [[AT_MOST_FIVE]]))

    def test_bent(self):
        for thing in bent(LOST):
            if self.lets(thing):
                for place, number, row, numbers in thing:
                    wish = OFFERED[place][number]
                    self.assertFalse(grants([wish], numbers[-1:]))
                    self.assertTrue(row is None or PROGRAM[2][row][1] == place)

    def test_of_anything(self):
        for thing in odd_things():
            if not isinstance(thing, list) or thing:
                self.assertFalse(self.lets(thing))
            self.assertFalse(self.lets([thing]))
            self.assertFalse(self.lets([LOST[0], thing]))
            for at in range(4):
                for entry in LOST:
                    bad = (*entry[:at], thing, *entry[at + 1:])
                    if at == 2 and thing is None and entry == LOST[0]:
                        continue
                    self.assertFalse(self.lets([bad]))
            self.assertFalse(self.lets([(0, 2, None, [thing])]))
            self.assertFalse(self.lets([(1, 1, 1, [thing, thing])]))

    def test_what_is_lost_is_in_no_kept_part(self):
        for place, number in ((0, 2), (1, 1)):
            for part in ([[0, 1, 2], [0, 1]], [[0], [0]], [[], []], [[1], [1]]):
                with_it = [sorted({*part[at], number}) if at == place else part[at] for at in range(2)]
                self.assertIsNone(papers_by_follows(PROGRAM, START, OFFERED, with_it))


class Refused(unittest.TestCase):
    def test_what_is_no_start_goes_ahead_of_what_is_no_offer(self):
        for start in odd_starts():
            for offered in (OFFERED, None, Sour()):
                refused(self, NoStart, greatest, PROGRAM, start, offered=offered)
                refused(self, NoStart, lets_lost, PROGRAM, start, offered, [])

    def test_what_is_no_offer(self):
        for offered in odd_offers():
            refused(self, NoOffer, greatest, PROGRAM, START, offered=offered)
            refused(self, NoOffer, lets_lost, PROGRAM, START, offered, [])
            refused(self, NoOffer, lets_lost, PROGRAM, START, offered, Sour())

    def test_what_is_no_program_goes_first(self):
        takes_programs_alone(self, lambda thing: greatest(thing, START, offered=OFFERED))
        takes_programs_alone(self, lambda thing: greatest(thing, None, offered=Sour()))
        takes_programs_alone(self, lambda thing: lets_lost(thing, START, OFFERED, []))
        takes_programs_alone(self, lambda thing: lets_lost(thing, None, Sour(), None))


if __name__ == "__main__":
    unittest.main()
