"""Points [27], [28] and [3](f): rounds that can be gone without end."""

import itertools
import random
import unittest
from fractions import Fraction

from downweigh import errors
from downweigh.mixtures import barred, lets_mixture
from downweigh.numbers import fraction
from downweigh.otherwise import part_of, places_ordered
from downweigh.ranks import left_by, lets_ranks
from downweigh.rounds import LONGEST, gone, lets_round, mixture_of, round_met, round_of
from downweigh.settling import sets_of, settled
from downweigh.walks import Walk
from tests.examples import SETTLED, program
from tests.things import (
    LOOP, Sour, all_own, bent, both_ways, kept_as_is, odd_things, refused, some_program, spoil, takes_programs_alone)

NOUGHT, ONE, TWO, LESS = (0, 1), (1, 1), (2, 1), (-1, 1)
STAND = program("x", "a", "a a: -1 + x >= 0; -x + x' = 0")
STAND_ROUND = ([0], [[TWO], [TWO]], [[NOUGHT], [NOUGHT]])
UP = program("x", "a", "a a: x >= 0; 1 + x - x' = 0")
UP_ROUND = ([0], [[(1, 2)], [(3, 2)]], [[ONE], [ONE]])
# round by three places: y two more, y one less, x halved and doubled in between
THREE = program("x y", "a b c", "a b: -x + 2*x' = 0; 2 + y - y' = 0; y >= 0", "b c: -x + x' = 0; 1 - y + y' = 0; x >= 0",
                "c a: 2*x - x' = 0; -y + y' = 0; 9 - x >= 0")
THREE_ROUND = ([0, 1, 2], [[(4, 1), NOUGHT], [TWO, TWO], [TWO, ONE], [(4, 1), ONE]], [[NOUGHT, ONE]] * 4)
# in the one row x and y change places, so what is added to x in one lap is added to y in the other
SWAP = program("x y", "a", "a a: -x + y' = 0; -y + x' = 0")
SWAP_ROUND = ([0, 0], [[NOUGHT, ONE], [ONE, NOUGHT], [NOUGHT, ONE]], [[NOUGHT, NOUGHT]] * 3)
# x twice as much and then half as much and one, so its drift is twice as much in between
GROWS = program("x", "a b", "a b: 2*x - x' = 0", "b a: 2 + x - 2*x' = 0")
GROWS_ROUND = ([0, 1], [[NOUGHT], [NOUGHT], [ONE]], [[ONE], [TWO], [ONE]])
ALL = ((STAND, STAND_ROUND), (UP, UP_ROUND), (THREE, THREE_ROUND), (SWAP, SWAP_ROUND), (GROWS, GROWS_ROUND))
FREE = program("x", "a b", "a b:", "b a:", "a a:", "b a: -x + x' = 0")


def wants(wish, plain, numbers):
    told = wish[1][0] * plain + sum(factor * Fraction(*number) for factor, number in zip(wish[1][1:], numbers))
    return told == 0 if wish[0] == "just" else told >= 0


def is_round(one, thing):
    """Whether a round that is of the right form is one, reckoned apart from the program."""
    rows, states, drifts = thing
    for row, other in zip(rows, rows[1:] + rows[:1]):
        if one[2][row][1] != one[2][other][0]:
            return False
    for at, row in enumerate(rows):
        for wish in one[2][row][2]:
            if not wants(wish, 1, states[at] + states[at + 1]) or not wants(wish, 0, drifts[at] + drifts[at + 1]):
                return False
    more = [Fraction(*last) - Fraction(*first) for first, last in zip(states[0], states[-1])]
    return drifts[0] == drifts[-1] and [Fraction(*drift) for drift in drifts[0]] == more


def rings_of(one, longest):
    """All rings in which no two rows start at one place, as round_met goes through them; tried one by one."""
    everyone = range(len(one[2]))
    for many in range(1, longest + 1):
        for rows in itertools.permutations(everyone, many):
            ways = [one[2][row] for row in rows]
            if rows[0] == min(rows) and len({way[0] for way in ways}) == many:
                if all(way[1] == after[0] for way, after in zip(ways, ways[1:] + ways[:1])):
                    yield list(rows)


class Case(unittest.TestCase):
    def lets(self, one, thing):
        told = lets_round(one, thing)
        self.assertIs(type(told), bool)
        return told


class Lets(Case):
    def test_rounds(self):
        for one, thing in ALL:
            self.assertTrue(self.lets(one, thing))
            self.assertIs(kept_as_is(self, lets_round, one, thing), True)
            self.assertIs(both_ways(self, lets_round, program=one, thing=thing), True)

    def test_states_go_by_the_rows(self):
        for x, other, wanted in ((ONE, ONE, True), ((1, 2), (1, 2), False), (ONE, TWO, False), ((10 ** 50, 3), (10 ** 50, 3), True)):
            self.assertIs(self.lets(STAND, ([0], [[x], [other]], [[NOUGHT], [NOUGHT]])), wanted)
        for x, other, wanted in ((NOUGHT, ONE, True), (ONE, TWO, True), (LESS, NOUGHT, False), (ONE, ONE, False)):
            self.assertIs(self.lets(UP, ([0], [[x], [other]], [[ONE], [ONE]])), wanted)

    def test_drifts(self):
        for drift, other, wanted in ((ONE, ONE, True), (ONE, TWO, False), (TWO, TWO, False), (NOUGHT, NOUGHT, False), (NOUGHT, ONE, False)):
            self.assertIs(self.lets(UP, ([0], [[NOUGHT], [ONE]], [[drift], [other]])), wanted)
        # the first and the last one are alike, and what one lap adds, also where the row wants nothing
        for first, last, more in itertools.product((NOUGHT, ONE), repeat=3):
            self.assertIs(self.lets(FREE, ([2], [[ONE], [fraction(1 + more[0])]], [[first], [last]])), first == last == more)
        # lap by lap x comes below what the row wants
        down = program("x", "a", "a a: -5 + x >= 0; 1 - x + x' = 0")
        self.assertFalse(self.lets(down, ([0], [[(9, 1)], [(8, 1)]], [[LESS], [LESS]])))
        endless = program("x", "a", "a a: 1 - x + x' = 0")
        self.assertTrue(self.lets(endless, ([0], [[(9, 1)], [(8, 1)]], [[LESS], [LESS]])))
        # a drift goes by the rows, too, from place to place
        for middle, wanted in ((TWO, True), (ONE, False), (NOUGHT, False)):
            self.assertIs(self.lets(GROWS, (*GROWS_ROUND[:2], [[ONE], [middle], [ONE]])), wanted)
        for one, other, wanted in ((NOUGHT, NOUGHT, True), (ONE, ONE, False)):
            self.assertIs(self.lets(SWAP, ([0, 0], *SWAP_ROUND[1:2], [[one, NOUGHT], [NOUGHT, one], [other, NOUGHT]])), wanted)

    def test_the_plain_number_is_not_in_a_drift(self):
        far = program("x", "a", "a a: -1 + x' >= 0; 7 + x - x' = 0")
        self.assertTrue(self.lets(far, ([0], [[NOUGHT], [(7, 1)]], [[(7, 1)], [(7, 1)]])))

    def test_rings(self):
        stays = [[NOUGHT]] * 13
        for rows, wanted in (([2], True), ([0, 1], True), ([1, 0], True), ([0, 3], True), ([0, 1, 2], True), ([2, 0, 1], True),
                             ([0, 2, 1], False), ([0], False), ([1], False), ([3, 1], False), ([2] * 12, True), ([0, 1, 0, 3, 2, 2] * 2, True),
                             ([4], False), ([-2], False), ([True, 0], False), ([2.0], False), (["2"], False), ((2,), False), ([[2]], False)):
            many = len(rows) + 1
            self.assertIs(self.lets(FREE, (rows, stays[:many], stays[:many])), wanted, rows)
        for many in (0, 13, 14):
            self.assertFalse(self.lets(FREE, ([2] * many, [[NOUGHT]] * (many + 1), [[NOUGHT]] * (many + 1))))
        self.assertFalse(self.lets((["x"], ["a"], []), ([0], stays[:2], stays[:2])))

    def test_lengths(self):
        for states, drifts in itertools.product(range(4), repeat=2):
            thing = ([2], [[NOUGHT]] * states, [[NOUGHT]] * drifts)
            self.assertIs(self.lets(FREE, thing), (states, drifts) == (2, 2))
        for wrong in ([[NOUGHT], []], [[NOUGHT], [NOUGHT, NOUGHT]], [[NOUGHT], (NOUGHT,)], ([NOUGHT], [NOUGHT]), [[(0, 2)], [NOUGHT]], [[0], [NOUGHT]],
                      [NOUGHT, NOUGHT]):
            self.assertFalse(self.lets(FREE, ([2], wrong, [[NOUGHT]] * 2)))
            self.assertFalse(self.lets(FREE, ([2], [[NOUGHT]] * 2, wrong)))
        good = ([2], [[NOUGHT]] * 2, [[NOUGHT]] * 2)
        for wrong in (list(good), good[:2], (*good, []), (), [good], (good,)):
            self.assertFalse(self.lets(FREE, wrong))

    def test_bent(self):
        for one, thing in ALL:
            wrong = 0
            for other in bent(thing):
                if self.lets(one, other):
                    self.assertTrue(is_round(one, other))
                else:
                    wrong += 1
            self.assertGreater(wrong, 100)

    def test_each_number_another_one(self):
        dice = random.Random(27)
        told = {True: 0, False: 0}
        for one, (rows, states, drifts) in ALL * 30:
            states, drifts = [list(state) for state in states], [list(drift) for drift in drifts]
            for turn in range(dice.randint(0, 3)):
                one_of = dice.choice((states, drifts))
                numbers = dice.choice(one_of)
                numbers[dice.randrange(len(numbers))] = dice.choice((NOUGHT, ONE, TWO, LESS, (1, 2)))
                if dice.random() < 0.3:
                    one_of[-1] = list(one_of[0])
            wanted = is_round(one, (rows, states, drifts))
            self.assertIs(self.lets(one, (rows, states, drifts)), wanted)
            told[wanted] += 1
        self.assertGreater(min(told.values()), 20)

    def test_of_anything(self):
        for thing in odd_things():
            self.assertFalse(self.lets(STAND, thing))
            for at in range(3):
                self.assertFalse(self.lets(STAND, (*STAND_ROUND[:at], thing, *STAND_ROUND[at + 1:])))
                self.assertFalse(self.lets(STAND, (*STAND_ROUND[:at], [thing], *STAND_ROUND[at + 1:])))
                self.assertFalse(self.lets(STAND, (*STAND_ROUND[:at], [thing, thing], *STAND_ROUND[at + 1:])))
                self.assertFalse(self.lets(STAND, (*STAND_ROUND[:at], [[thing], [thing]], *STAND_ROUND[at + 1:])))

    def test_what_is_no_program_goes_first(self):
        takes_programs_alone(self, lambda thing: lets_round(thing, STAND_ROUND))
        takes_programs_alone(self, lambda thing: lets_round(thing, Sour()))


class Gone(Case):
    def test_laps(self):
        self.assertEqual(gone(STAND, STAND_ROUND), [(0, [TWO]), (0, [TWO])])
        self.assertEqual(gone(UP, UP_ROUND, laps=0), [(0, [(1, 2)])])
        self.assertEqual(gone(UP, UP_ROUND, laps=3), [(0, [(1, 2)]), (0, [(3, 2)]), (0, [(5, 2)]), (0, [(7, 2)])])
        self.assertEqual(gone(THREE, THREE_ROUND, laps=2), [
            (0, [(4, 1), NOUGHT]), (1, [TWO, TWO]), (2, [TWO, ONE]), (0, [(4, 1), ONE]), (1, [TWO, (3, 1)]), (2, [TWO, TWO]), (0, [(4, 1), TWO])])
        self.assertEqual(gone(GROWS, GROWS_ROUND, laps=2), [(0, [NOUGHT]), (1, [NOUGHT]), (0, [ONE]), (1, [TWO]), (0, [TWO])])
        self.assertEqual(gone(SWAP, SWAP_ROUND, laps=1), [(0, [NOUGHT, ONE]), (0, [ONE, NOUGHT]), (0, [NOUGHT, ONE])])

    def test_one_lap_where_it_is_left_out(self):
        for one, thing in ALL:
            self.assertEqual(gone(one, thing), gone(one, thing, laps=1))
            self.assertEqual(gone(program=one, round_told=thing, laps=2), gone(one, thing, laps=2))
        with self.assertRaises(TypeError):
            gone(UP, UP_ROUND, 2)

    def test_each_goes_by_the_rows(self):
        for one, thing in ALL:
            for laps in (0, 1, 2, 60):
                told = gone(one, thing, laps=laps)
                self.assertEqual(len(told), 1 + laps * len(thing[0]))
                walk = Walk(one, *told[0])
                rows = thing[0] * laps
                walk.go([(row, behind) for row, (place, behind) in zip(rows, told[1:])])
                self.assertEqual(walk.states(), told)

    def test_refusals(self):
        takes_programs_alone(self, lambda thing: gone(thing, Sour(), laps=Sour()))
        for thing in odd_things():
            refused(self, errors.NoRound, gone, UP, thing)
            refused(self, errors.NoRound, gone, UP, thing, laps=thing)
            refused(self, errors.NoRound, gone, UP, ([0], [[NOUGHT], [ONE]], [[ONE], thing]), laps=61)
            told = refused(self, errors.NoNumber, gone, UP, UP_ROUND, laps=thing)
            self.assertIs(told.thing, thing)
        for laps in (-1, 61, 10 ** 50, True, False, 1.0, "1"):
            self.assertEqual(refused(self, errors.NoNumber, gone, UP, UP_ROUND, laps=laps).thing, laps)
        refused(self, errors.NoRound, gone, UP, STAND_ROUND)

    def test_what_is_handed_in_and_the_askers_own(self):
        for one, thing in ALL:
            told = kept_as_is(self, gone, one, thing, laps=2)
            all_own(self, told, one, thing)
            again = repr(told)
            spoil(told)
            self.assertEqual(repr(gone(one, thing, laps=2)), again)


class Mixed(Case):
    def check(self, one, thing):
        mixture = mixture_of(one, thing)
        rows = sorted(set(thing[0]))
        self.assertEqual([part[0] for part in mixture], rows)
        self.assertTrue(lets_mixture(one, rows, mixture))
        self.assertEqual(barred(mixture), rows)

    def test_mixtures(self):
        for one, thing in ALL:
            self.check(one, thing)
            self.assertEqual(both_ways(self, mixture_of, program=one, round_told=thing), mixture_of(one, thing))
        # rings in which rows are gone more often than once, or that begin at another row
        self.check(FREE, ([2, 0, 1, 0, 3, 2], [[NOUGHT], [(1, 3)], [TWO], [LESS], [(5, 3)], [(5, 3)], [ONE]], [[ONE]] * 7))
        self.check(THREE, ([1, 2, 0], [[TWO, (4, 1)], [TWO, (3, 1)], [(4, 1), (3, 1)], [TWO, (5, 1)]], THREE_ROUND[2]))

    def test_refusals(self):
        takes_programs_alone(self, lambda thing: mixture_of(thing, Sour()))
        for thing in odd_things():
            refused(self, errors.NoRound, mixture_of, UP, thing)
        refused(self, errors.NoRound, mixture_of, UP, STAND_ROUND)

    def test_what_is_handed_in_and_the_askers_own(self):
        for one, thing in ALL:
            told = kept_as_is(self, mixture_of, one, thing)
            all_own(self, told, one, thing)
            again = repr(told)
            spoil(told)
            self.assertEqual(repr(mixture_of(one, thing)), again)


class Found(Case):
    def test_round_of(self):
        for one, thing in ALL + ((FREE, ([0, 1],)), (FREE, ([2] * 12,)), (FREE, ([0, 3, 2],))):
            told = round_of(one, thing[0])
            self.assertEqual(told[0], thing[0])
            self.assertTrue(self.lets(one, told))
            self.assertEqual(both_ways(self, round_of, program=one, rows=thing[0]), told)

    def test_rings_without_a_round(self):
        for one, ring in ((LOOP, [0]), (LOOP, [0] * 12), (SETTLED["halved while from one on"][0], [0]), (SETTLED["never alone"][0], [0]),
                          (SETTLED["falls and rises in turn"][0], [0, 1]), (SETTLED["falls and rises in turn"][0], [1, 0] * 6),
                          (SETTLED["two ranks"][0], [0, 1, 1]), (SETTLED["up to ten"][0], [0, 0])):
            self.assertIsNone(round_of(one, ring))
        # x is doubled: only from nought on it goes round alike, which one row does not want
        for low, wanted in ((0, False), (1, True)):
            one = program("x", "a", f"a a: -{low} + x >= 0; 2*x - x' = 0".replace("-0 + x", "x"))
            self.assertIs(round_of(one, [0]) is None, wanted)

    def test_rings_alone_are_taken(self):
        takes_programs_alone(self, lambda thing: round_of(thing, Sour()))
        for thing in odd_things():
            refused(self, errors.NoRing, round_of, FREE, thing)
            refused(self, errors.NoRing, round_of, FREE, [2, thing])
        for rows in ([], [0], [1], [0, 2, 1], [4], [-1], [2] * 13, (2,), [True, 0], [0, True], [0.0, 1], "2", [[2]], {2: 2}):
            refused(self, errors.NoRing, round_of, FREE, rows)

    def test_every_ring_by_dice(self):
        dice = random.Random(28)
        told = {True: 0, False: 0}
        for turn in range(300):
            one = some_program(dice, most_rows=5, most_wishes=5, size=2)
            sets = sets_of(one)
            for ring in rings_of(one, 4):
                at = dice.randrange(len(ring))
                ring = (ring[at:] + ring[:at]) * dice.choice((1, 1, 2, 3))
                if len(ring) > 12:
                    continue
                found = kept_as_is(self, round_of, one, ring)
                told[found is None] += 1
                # a ring of which a row falls, or never goes, has none
                if any(row not in sets[2] for row in ring):
                    self.assertIsNone(found)
                if found is None:
                    continue
                self.assertTrue(is_round(one, found))
                self.assertTrue(self.lets(one, found))
                rows = sorted(set(ring))
                mixture = mixture_of(one, found)
                self.assertTrue(lets_mixture(one, rows, mixture))
                self.assertEqual(barred(mixture), rows)
                word, never, ranks, mixtures = settled(one)
                self.assertEqual(word, "left")
                self.assertFalse(lets_ranks(one, never, ranks))
                self.assertTrue(set(rows) <= set(left_by(one, never, ranks)))
                # all laps again and again
                self.assertEqual(len(gone(one, found, laps=60)), 60 * len(ring) + 1)
        self.assertGreater(min(told.values()), 50)

    def test_what_is_handed_in_and_the_askers_own(self):
        for one, thing in ALL:
            ring = list(thing[0])
            told = kept_as_is(self, round_of, one, ring)
            all_own(self, told, one, ring)
            again = repr(told)
            spoil(told)
            self.assertEqual(repr(round_of(one, ring)), again)
            told = kept_as_is(self, round_met, one)
            all_own(self, told, one)
            again = repr(told)
            spoil(told)
            self.assertEqual(repr(round_met(one)), again)


class Met(Case):
    def test_the_most_rows(self):
        self.assertEqual((LONGEST, type(LONGEST)), (6, int))

    def test_none(self):
        for name in ("no rows", "never alone", "count down", "two ranks", "three ranks", "halved while from one on", "by three places"):
            self.assertIsNone(round_met(SETTLED[name][0]))
        # x halved above nought goes on without end, and by no round but at nought itself
        one = program("x", "a", "a a: x >= 0; -x + 2*x' = 0")
        self.assertEqual(round_met(one), ([0], [[NOUGHT], [NOUGHT]], [[NOUGHT], [NOUGHT]]))

    def test_the_shorter_ones_first(self):
        for rows, wanted in (
            (["a b:", "b a:", "a a:"], [2]), (["a b:", "b c:", "c a:", "c b:"], [1, 3]), (["a b:", "b c:", "c a:"], [0, 1, 2]),
            (["c a:", "b c:", "a b:"], [0, 2, 1]), (["b a:", "a b:", "b a:", "a b:"], [0, 1]), (["b a: -1 = 0", "a b:", "b a:", "a b:"], [1, 2]),
            (["b c:", "c b: -1 = 0", "c a:", "a c:", "c b:"], [0, 4]), (["a a: -1 = 0", "b b:", "c c:"], [1]), (["a b:", "b c:"], None),
            (["c b: -x + x' = 0", "b c: 1 - x + x' = 0; x >= 0", "a a: -1 + x' >= 0; x' + 3*x = 0; 5 - x' >= 0; x >= 0", "b c: -x + x' = 0"], [0, 3]),
        ):
            rows = [row.replace("x' + 3*x", "3*x + x'") for row in rows]
            one = program("x", "a b c", *rows)
            told = round_met(one)
            self.assertEqual(told and told[0], wanted, rows)

    def test_rows_that_start_at_one_place(self):
        # x goes up by one row and down by the other: only both together go round
        one = program("x", "a", "a a: x >= 0; 5 - x >= 0; 1 + x - x' = 0", "a a: x >= 0; 5 - x >= 0; 1 - x + x' = 0")
        self.assertIsNotNone(round_of(one, [0, 1]))
        self.assertIsNone(round_met(one))
        # so with another place in between
        one = program("x", "a b", "a b: 5 - x >= 0; 1 + x - x' = 0", "b a: x >= 0; 1 - x + x' = 0")
        self.assertEqual(round_met(one)[0], [0, 1])

    def test_longest(self):
        ways = ["a b", "b c", "c d", "d e", "e f", "f a"]
        six = program("x", "a b c d e f", *[way + ":" for way in ways])
        self.assertEqual(round_met(six)[0], [0, 1, 2, 3, 4, 5])
        self.assertEqual(round_met(six, longest=6), round_met(six))
        self.assertEqual(round_met(program=six, longest=6), round_met(six))
        for longest in range(1, 6):
            self.assertIsNone(round_met(six, longest=longest))
        for name, one in (("one", program("x", "a", "a a:")), ("two", program("x", "a b", "a b:", "b a:"))):
            many = len(one[2])
            for longest in range(1, 7):
                self.assertEqual(round_met(one, longest=longest) is None, longest < many)
        for thing in [*odd_things(), 0, 7, -1, 10 ** 40]:
            told = refused(self, errors.NoNumber, round_met, six, longest=thing)
            self.assertIs(told.thing, thing)
        with self.assertRaises(TypeError):
            round_met(six, 6)
        takes_programs_alone(self, round_met)
        takes_programs_alone(self, lambda thing: round_met(thing, longest=Sour()))

    def test_all_rings_one_by_one(self):
        dice = random.Random(29)
        many = {}
        for turn in range(200):
            one = some_program(dice, most_rows=7, most_wishes=dice.choice((2, 4, 6)), size=2)
            longest = dice.randint(1, 6)
            wanted = None
            for ring in rings_of(one, longest):
                if round_of(one, ring) is not None:
                    wanted = ring
                    break
            told = round_met(one, longest=longest)
            self.assertEqual(told and told[0], wanted)
            self.assertTrue(told is None or self.lets(one, told))
            many[wanted and len(wanted)] = many.get(wanted and len(wanted), 0) + 1
        self.assertTrue(all(many.get(length, 0) > 3 for length in (None, 1, 2)))

    def test_rings_of_many_places(self):
        # x falls everywhere but by the last ring of all
        dice = random.Random(30)
        for turn in range(25):
            places = dice.randint(3, 6)
            names = "a b c d e f".split()[:places]
            rows = [f"{names[at]} {names[(at + 1) % places]}: x >= 0; -x + x' = 0" for at in range(places)]
            rows += [f"{dice.choice(names)} {dice.choice(names)}: x >= 0; 1 - x + x' = 0" for row in range(10 - places)]
            order = list(range(10))
            dice.shuffle(order)
            one = program("x", " ".join(names), *[rows[at] for at in order])
            told = round_met(one)
            ring = [order.index(at) for at in range(places)]
            at = ring.index(min(ring))
            self.assertEqual(told[0], ring[at:] + ring[:at])
            self.assertIsNone(round_met(one, longest=places - 1))

    def test_put_otherwise(self):
        dice = random.Random(31)
        for turn in range(60):
            one = some_program(dice, most_rows=6, most_wishes=4, size=2)
            order = list(range(len(one[1])))
            dice.shuffle(order)
            told, other = round_met(one), round_met(places_ordered(one, order))
            self.assertEqual(told and told[0], other and other[0])
            if told is not None:
                rows = sorted(told[0])
                self.assertEqual(round_met(part_of(one, rows))[0], [rows.index(row) for row in told[0]])


if __name__ == "__main__":
    unittest.main()
