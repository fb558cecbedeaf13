"""Points [20], [21] and [3](b): never and ranks, and the rows that they leave."""

import random
import unittest

from downweigh.numbers import is_below, minus
from downweigh.ranks import left_by, lets_ranks
from downweigh.walks import Walk
from downweigh.weighings import weighs
from tests.finder import never_of, rank_of
from tests.things import (
    DOWN, FROM_ONE, LOOP, STAYS, Sour, all_own, bent, both_ways, kept_as_is, odd_things, some_numbers, some_program, spoil,
    takes_programs_alone)

LONG = 10 ** 40
NOUGHT, ONE, TWO, LESS = (0, 1), (1, 1), (2, 1), (-1, 1)
# x falls by one while it is from one on: fall is x - x', less 1, and x is from nought on
LOOP_RANK = ([[0, 1]], [(0, True, [NOUGHT, (-1, 1)], [ONE, NOUGHT])])
NEVER_ROW = (0, 0, [("just", [1, 0, 0])])
NEVER_TOO = (0, 0, [("least", [-1, 1, 0]), ("least", [0, -1, 0])])
WITH_NEVER = (["x"], ["a"], [NEVER_ROW, LOOP[2][0], NEVER_TOO])
NEVERS = [(0, [LESS]), (2, [ONE, ONE])]


def on_row(number, rank):
    """The same rank, its one entry told of another row."""
    return (rank[0], [(number, *entry[1:]) for entry in rank[1]])


def two_down():
    """x falls at row 0 where y may rise; at row 1 y falls and x stays; both from one on ahead of the row."""
    x_one, y_one = ("least", [-1, 1, 0, 0, 0]), ("least", [-1, 0, 1, 0, 0])
    x_from, y_from = ("least", [0, 1, 0, 0, 0]), ("least", [0, 0, 1, 0, 0])
    return (["x", "y"], ["a"], [
        (0, 0, [x_one, y_from, ("just", [1, -1, 0, 1, 0])]),
        (0, 0, [x_from, y_one, ("just", [0, -1, 0, 1, 0]), ("just", [1, 0, -1, 0, 1])]),
    ])


TWO_RANKS = [
    ([[0, 1, 0]], [(0, True, [NOUGHT, NOUGHT, LESS], [ONE, NOUGHT, NOUGHT]),
                   (1, False, [NOUGHT, NOUGHT, LESS, NOUGHT], [ONE, NOUGHT, NOUGHT, NOUGHT])]),
    ([[0, 0, 1]], [(1, True, [NOUGHT, NOUGHT, NOUGHT, LESS], [NOUGHT, ONE, NOUGHT, NOUGHT])]),
]


class Case(unittest.TestCase):
    def left(self, program, never, ranks):
        told = left_by(program, never, ranks)
        self.assertIs(lets_ranks(program, never, ranks), told is not None and told == [])
        return told


class Never(Case):
    def test_all_some_and_none(self):
        self.assertEqual(self.left(WITH_NEVER, NEVERS, []), [1])
        self.assertEqual(self.left(WITH_NEVER, NEVERS[:1], []), [1, 2])
        self.assertEqual(self.left(WITH_NEVER, NEVERS[1:], []), [0, 1])
        self.assertEqual(self.left(WITH_NEVER, [], []), [0, 1, 2])
        self.assertEqual(self.left(WITH_NEVER, NEVERS, [on_row(1, LOOP_RANK)]), [])

    def test_shares(self):
        for shares, wanted in (([LESS], True), ([(-2, 1)], True), ([(-1, 2)], False), ([ONE], False), ([NOUGHT], False), ([], False),
                               ([LESS, NOUGHT], False), ((LESS,), False), ([-1], False), ([(-2, 2)], False), (None, False)):
            self.assertEqual(self.left(WITH_NEVER, [(0, shares)], []), [1, 2] if wanted else None, shares)
        for shares, wanted in (([ONE, ONE], True), ([TWO, TWO], True), ([ONE, TWO], False), ([(1, 2), (1, 2)], False),
                               ([LESS, LESS], False)):
            self.assertEqual(self.left(WITH_NEVER, [(2, shares)], []), [0, 1] if wanted else None, shares)

    def test_without_factors_ahead_and_behind(self):
        for line, wanted in (([-1, 0, 0], []), ([-2, 0, 0], []), ([-1, 1, 0], None), ([-1, 0, 1], None), ([0, 0, 0], None)):
            self.assertEqual(self.left((["x"], ["a"], [(0, 0, [("least", line)])]), [(0, [ONE])], []), wanted)

    def test_rows_that_do_go(self):
        for shares in ([NOUGHT, NOUGHT], [ONE, ONE], [ONE, LESS], [LESS, LESS], []):
            self.assertIsNone(self.left(WITH_NEVER, [(1, shares)], []))
            self.assertIsNone(self.left(WITH_NEVER, [NEVERS[0], (1, shares), NEVERS[1]], []))

    def test_rows_unlike_and_rising(self):
        for never in (NEVERS[::-1], [NEVERS[0], NEVERS[0]], [*NEVERS, NEVERS[1]], [(3, [LESS])], [(-3, [LESS])], [(False, [LESS])],
                      [(0, [LESS], 1)], [(0,)], [[0, [LESS]]], tuple(NEVERS), [(0.0, [LESS])], [("0", [LESS])], {0: [LESS]},
                      [(None, [LESS])], [(Sour(), [LESS])]):
            self.assertIsNone(self.left(WITH_NEVER, never, []))

    def test_of_anything(self):
        for thing in odd_things():
            self.assertIsNone(self.left(WITH_NEVER, thing, []))
            self.assertIsNone(self.left(WITH_NEVER, thing, [LOOP_RANK]))
            self.assertIsNone(self.left(WITH_NEVER, [thing], []))
            self.assertIsNone(self.left(WITH_NEVER, [(thing, [LESS])], []))
            self.assertIsNone(self.left(WITH_NEVER, [(0, thing)], []))
            self.assertIsNone(self.left(WITH_NEVER, [(0, [thing])], []))
            self.assertIsNone(self.left(WITH_NEVER, [NEVERS[0], thing], []))
            self.assertIsNone(self.left(WITH_NEVER, thing, thing))


class Ranks(Case):
    def test_one(self):
        self.assertEqual(self.left(LOOP, [], [LOOP_RANK]), [])
        self.assertEqual(self.left(LOOP, [], []), [0])
        self.assertEqual(both_ways(self, left_by, program=LOOP, never=[], ranks=[LOOP_RANK]), [])
        self.assertIs(both_ways(self, lets_ranks, program=LOOP, never=[], ranks=[LOOP_RANK]), True)
        self.assertIs(lets_ranks(LOOP, [], []), False)

    def test_a_row_that_does_not_fall(self):
        still = ([[0, 1]], [(0, False, [NOUGHT, (-1, 1)], [ONE, NOUGHT])])
        self.assertEqual(self.left(LOOP, [], [still]), [0])
        self.assertEqual(self.left(LOOP, [], [still, still, LOOP_RANK]), [])
        # a weighing that is nought everywhere makes nothing rise or fall
        flat = ([[0, 0]], [(0, False, [NOUGHT, NOUGHT], [NOUGHT, NOUGHT])])
        self.assertEqual(self.left(LOOP, [], [flat]), [0])
        self.assertIsNone(self.left(LOOP, [], [([[0, 0]], [(0, True, [NOUGHT, NOUGHT], [NOUGHT, NOUGHT])])]))

    def test_falls_by_one_or_more(self):
        # where x falls by a half alone, so many times as great a weighing falls by one
        for down, wanted in ((1, None), (2, []), (3, [])):
            halves = (["x"], ["a"], [(0, 0, [FROM_ONE, ("just", [down, -2, 2])])])
            once = ([[0, 1]], [(0, True, [NOUGHT, (-1, 2)], [ONE, NOUGHT])])
            self.assertEqual(self.left(halves, [], [once]), wanted)
            twice = ([[0, 2]], [(0, True, [NOUGHT, LESS], [TWO, NOUGHT])])
            self.assertEqual(self.left(halves, [], [twice]), [])

    def test_bounds(self):
        for line, fall, bound, wanted in (
            ([0, 1], [NOUGHT, LESS], [ONE, NOUGHT], True), ([-1, 1], [NOUGHT, LESS], [ONE, NOUGHT], True),
            ([-2, 1], [NOUGHT, LESS], [ONE, NOUGHT], False), ([5, 1], [NOUGHT, LESS], [ONE, NOUGHT], True),
            ([0, 1], [NOUGHT, LESS], [NOUGHT, NOUGHT], False), ([0, 1], [NOUGHT, LESS], [LESS, NOUGHT], False),
            ([0, 1], [NOUGHT, ONE], [ONE, NOUGHT], False), ([0, 1], [ONE, LESS], [ONE, NOUGHT], False),
            ([0, 1], [NOUGHT, LESS], [ONE, ONE], False), ([0, 2], [NOUGHT, (-2, 1)], [TWO, NOUGHT], True),
            ([0, -1], [NOUGHT, ONE], [ONE, NOUGHT], False),
        ):
            self.assertEqual(self.left(LOOP, [], [([line], [(0, True, fall, bound)])]), [] if wanted else None)
        # without a wish from which on x is, it falls without end
        endless = (["x"], ["a"], [(0, 0, [DOWN])])
        for bound in ([NOUGHT], [ONE], [LESS]):
            self.assertIsNone(self.left(endless, [], [([[0, 1]], [(0, True, [LESS], bound)])]))

    def test_two(self):
        program = two_down()
        self.assertEqual(self.left(program, [], TWO_RANKS), [])
        self.assertEqual(self.left(program, [], TWO_RANKS[:1]), [1])
        self.assertIsNone(self.left(program, [], TWO_RANKS[1:]))
        self.assertIsNone(self.left(program, [], TWO_RANKS[::-1]))
        # the rows that fell are no longer to be told of
        self.assertIsNone(self.left(program, [], [TWO_RANKS[0], TWO_RANKS[0]]))

    def test_three(self):
        # each of three numbers falls at its row, where those behind it may become anything
        ones = [("least", [-1] + [int(at == row) for at in range(3)] + [0, 0, 0]) for row in range(3)]
        froms = [("least", [0] + [int(at == row) for at in range(3)] + [0, 0, 0]) for row in range(3)]
        rows = []
        for row in range(3):
            wishes = [froms[at] if at != row else ones[at] for at in range(3)]
            for at in range(row + 1):
                down = [0] * 7
                down[0], down[1 + at], down[4 + at] = int(at == row), -1, 1
                wishes.append(("just", down))
            rows.append((0, 0, wishes))
        program = (["x", "y", "z"], ["a"], rows)
        ranks = []
        for rank in range(3):
            entries = []
            for row in range(rank, 3):
                many = 4 + row
                fall = [LESS if at == 3 + rank else NOUGHT for at in range(many)]
                bound = [ONE if at == rank else NOUGHT for at in range(many)]
                entries.append((row, row == rank, fall, bound))
            ranks.append(([[0] + [int(at == rank) for at in range(3)]], entries))
        self.assertEqual(self.left(program, [], ranks), [])
        self.assertEqual(self.left(program, [], ranks[:2]), [2])
        self.assertEqual(self.left(program, [], ranks[:1]), [1, 2])
        self.assertIsNone(self.left(program, [], [ranks[0], ranks[2]]))

    def test_rows_that_fall_at_one_rank(self):
        program = (["x"], ["a", "b"], [(0, 1, [FROM_ONE, STAYS]), (1, 0, [FROM_ONE, DOWN])])
        weighing = [[1, 2], [0, 2]]
        entries = [(0, True, [NOUGHT, (-2, 1)], [TWO, NOUGHT]), (1, True, [NOUGHT, (-2, 1)], [TWO, NOUGHT])]
        self.assertEqual(self.left(program, [], [(weighing, entries)]), [])
        self.assertIsNone(self.left(program, [], [(weighing[::-1], entries)]))
        self.assertIsNone(self.left(program, [], [(weighing, entries[::-1])]))
        one_falls = [(0, False, *entries[0][2:]), entries[1]]
        self.assertEqual(self.left(program, [], [(weighing, one_falls)]), [0])

    def test_entries(self):
        program = two_down()
        weighing, (one, other) = TWO_RANKS[0]
        for entries in ([one], [other], [], [other, one], [one, one], [one, other, other], [one, other, (2, *other[1:])], (one, other),
                        [one, (0, *other[1:])], [one, (True, *other[1:])], [one, list(other)], [one, other[:3]], [one, (*other, 1)],
                        [(0, 1, *one[2:]), other], [(0, None, *one[2:]), other], [(0, "True", *one[2:]), other],
                        [one, (1, True, *other[2:])], [one, (1, 0, *other[2:])], None, Sour()):
            self.assertIsNone(self.left(program, [], [(weighing, entries)]))

    def test_weighings(self):
        program = two_down()
        entries = TWO_RANKS[0][1]
        for weighing in ([], [[0, 1]], [[0, 1, 0, 0]], [[0, 1, 0], [0, 1, 0]], ([0, 1, 0],), [(0, 1, 0)], [[0, True, 0]],
                         [[0, (1, 1), 0]], [[0, 1.0, 0]], [0, 1, 0], None, Sour(), [[0, 1, Sour()]], [[0, 2, 0]], [[0, -1, 0]],
                         [[0, 1, 1]]):
            self.assertIsNone(self.left(program, [], [(weighing, entries)]))

    def test_a_rank_more_behind_the_last_row(self):
        # for no rows left there are no entries, whatever the weighing
        self.assertEqual(self.left(LOOP, [], [LOOP_RANK, ([[0, 1]], [])]), [])
        self.assertEqual(self.left(LOOP, [], [LOOP_RANK, ([[-LONG, LONG]], []), ([[0, 0]], [])]), [])
        self.assertIsNone(self.left(LOOP, [], [LOOP_RANK, LOOP_RANK]))
        self.assertIsNone(self.left(LOOP, [], [LOOP_RANK, ([[0, 1]], None)]))
        self.assertIsNone(self.left(LOOP, [], [LOOP_RANK, ([[0]], [])]))
        self.assertIsNone(self.left(LOOP, [], [LOOP_RANK, None]))
        self.assertIsNone(self.left(LOOP, [], [([[0, 1]], [])]))

    def test_no_rows(self):
        program = (["x"], ["a"], [])
        self.assertEqual(self.left(program, [], []), [])
        self.assertEqual(self.left(program, [], [([[0, 1]], [])]), [])
        self.assertIsNone(self.left(program, [], [LOOP_RANK]))
        self.assertIsNone(self.left(program, [(0, [])], []))

    def test_rows_that_never_go_have_no_entries(self):
        entry = LOOP_RANK[1][0]
        flat = (0, False, [NOUGHT], [NOUGHT])
        self.assertIsNone(self.left(WITH_NEVER, NEVERS, [([[0, 1]], [flat, (1, *entry[1:])])]))
        self.assertEqual(self.left(WITH_NEVER, NEVERS[1:], [([[0, 0]], [flat, (1, False, [NOUGHT] * 2, [NOUGHT] * 2)])]), [0, 1])

    def test_bent(self):
        program = two_down()
        self.assertEqual(self.left(program, [], TWO_RANKS), [])
        others = []
        for ranks in bent(TWO_RANKS):
            if self.left(program, [], ranks) == [] and ranks != TWO_RANKS:
                others.append(ranks)
        # a line's plain number alone may be greater
        self.assertEqual(others, [[([[1, 1, 0]], TWO_RANKS[0][1]), TWO_RANKS[1]], [TWO_RANKS[0], ([[1, 0, 1]], TWO_RANKS[1][1])]])

    def test_of_anything(self):
        program = two_down()
        first, second = TWO_RANKS
        for thing in odd_things():
            self.assertIsNone(self.left(program, [], thing))
            for ranks in ([thing], [first, thing], [(thing, first[1])], [(first[0], thing)], [(first[0], [thing, thing])],
                          [([thing], first[1])], [([[thing, thing, thing]], first[1])], [(thing, thing)],
                          [first, (second[0], [thing])]):
                self.assertIsNone(self.left(program, [], ranks))
            for at in range(4):
                entry = second[1][0]
                if at == 1 and isinstance(thing, bool):
                    continue
                self.assertIsNone(self.left(program, [], [first, (second[0], [(*entry[:at], thing, *entry[at + 1:])])]))
                bad = [thing] * 4
                if at > 1:
                    self.assertIsNone(self.left(program, [], [first, (second[0], [(*entry[:at], bad, *entry[at + 1:])])]))

    def test_what_is_no_program_goes_first(self):
        for call in (left_by, lets_ranks):
            takes_programs_alone(self, lambda thing: call(thing, [], []))
            takes_programs_alone(self, lambda thing: call(thing, Sour(), Sour()))

    def test_what_is_handed_in_and_the_askers_own(self):
        program = two_down()
        told = kept_as_is(self, left_by, program, [], TWO_RANKS[:1])
        all_own(self, told, program, TWO_RANKS)
        self.assertIs(kept_as_is(self, lets_ranks, program, [], TWO_RANKS), True)
        spoil(told)
        self.assertEqual(left_by(program, [], TWO_RANKS[:1]), [1])
        told = left_by(program, [], [])
        spoil(told)
        self.assertEqual(left_by(program, [], []), [0, 1])


class Found(Case):
    """Ranks that are found by balance, and what they say of walks."""

    def test_found_ranks(self):
        dice = random.Random(20)
        ended = walked = 0
        for turn in range(400):
            program = some_program(dice, most_rows=4, most_wishes=4, size=2)
            never = never_of(program)
            left = self.left(program, never, [])
            self.assertEqual(left, [row for row in range(len(program[2])) if row not in [number for number, paper in never]])
            ranks = []
            while left:
                found = [rank for rank in [rank_of(program, left, [row]) for row in left] if rank is not None]
                if not found:
                    break
                ranks.append(found[0])
                left = [row for row, falls, fall, bound in found[0][1] if not falls]
                self.assertEqual(self.left(program, never, ranks), left)
            if ranks and not left:
                ended += 1
                walked += self.walk(dice, program, never, ranks)
        self.assertGreater(min(ended, walked), 20)

    def walk(self, dice, program, never, ranks):
        """No step rises by a rank in which no row that fell earlier goes; each falls by one or more at its own."""
        walk = Walk(program, dice.randrange(len(program[1])), some_numbers(dice, len(program[0])))
        steps = 0
        while walk.leading() and steps < 6:
            row = dice.choice(walk.leading())
            self.assertNotIn(row, [number for number, paper in never])
            ahead = (walk.here(), walk.numbers())
            walk.step(row)
            steps += 1
            for weighing, entries in ranks:
                falls = {entry[0]: entry[1] for entry in entries}
                fell = minus(weighs(weighing, *ahead), weighs(weighing, walk.here(), walk.numbers()))
                self.assertFalse(is_below(weighs(weighing, *ahead), NOUGHT))
                self.assertFalse(is_below(fell, ONE if falls[row] else NOUGHT))
                if falls[row]:
                    break
        return steps


if __name__ == "__main__":
    unittest.main()
