"""Points [24], [25] and [3](c), (d), (i), (j): programs settled, and told as sets of rows."""

import random
import unittest

from downweigh.kept import put_in
from downweigh.lost import greatest
from downweigh.mixtures import barred
from downweigh.otherwise import beside, numbers_ordered, part_of, places_ordered
from downweigh.progtexts import read_program, shown_program
from downweigh.ranks import left_by
from downweigh.rounds import lets_round, round_met, round_of
from downweigh.settling import sets_of, settled
from downweigh.walks import Walk
from tests.examples import SETTLED, check_settled, program
from tests.finder import rank_of
from tests.things import (
    LOOP, all_own, both_ways, kept_as_is, some_numbers, some_offer, some_program, some_wishes, spoil, takes_programs_alone)

LONG = 10 ** 59 + 7


def side_by_side(one, other, many):
    """The sets of two programs side by side, of those of each, the first one with so many rows."""
    never, ranks, left = ([row + many for row in rows] for rows in (other[0], [], other[2]))
    ranks = []
    for at in range(max(len(one[1]), len(other[1]))):
        first = one[1][at] if at < len(one[1]) else []
        second = other[1][at] if at < len(other[1]) else []
        ranks.append(first + [row + many for row in second])
    return (one[0] + never, ranks, one[2] + left)


def without_names(one, letter):
    """The program with other names of its places."""
    return (one[0], [letter + name[:5] for name in one[1]], one[2])


def rank_in(sets, row):
    """The number of the rank in which a row falls, or of the last one and one more."""
    for at, rows in enumerate(sets[1]):
        if row in rows:
            return at
    return len(sets[1])


class Examples(unittest.TestCase):
    def test_each(self):
        for name, (one, sets) in SETTLED.items():
            with self.subTest(name):
                self.assertEqual(sets_of(one), sets)
                check_settled(self, one)

    def test_how_many_are_told(self):
        for name, word, ranks, mixtures in (
            ("no rows", "ends", 0, 0), ("never alone", "ends", 0, 0), ("count down", "ends", 1, 0), ("two ranks", "ends", 2, 1),
            ("three ranks", "ends", 3, 2), ("stays", "left", 0, 1), ("left behind a rank", "left", 1, 2), ("left behind two ranks", "left", 2, 3),
        ):
            told = settled(SETTLED[name][0])
            self.assertIs(type(told), tuple)
            self.assertEqual((told[0], len(told[2]), len(told[3])), (word, ranks, mixtures))
        self.assertEqual(settled(SETTLED["no rows"][0]), ("ends", [], [], []))
        self.assertEqual(sets_of(SETTLED["no rows"][0]), ([], [], []))

    def test_by_place_and_by_name(self):
        for one, sets in SETTLED.values():
            both_ways(self, settled, program=one)
            self.assertEqual(both_ways(self, sets_of, program=one), sets)

    def test_what_is_no_program(self):
        takes_programs_alone(self, settled)
        takes_programs_alone(self, sets_of)

    def test_what_is_handed_in_and_the_askers_own(self):
        rows = LOOP[2] * 2
        for one in [one for one, sets in SETTLED.values()] + [(LOOP[0], LOOP[1], rows)]:
            for call in (settled, sets_of):
                told = kept_as_is(self, call, one)
                all_own(self, told, one)
                again = repr(told)
                spoil(told)
                self.assertEqual(repr(call(one)), again)

    def test_long_numbers(self):
        steps = {"just": ("just", [LONG, -LONG, LONG]), "least": ("least", [-LONG + 1, LONG, 0])}
        one = (["x"], ["a"], [(0, 0, [steps["least"], steps["just"]]), (0, 0, [("least", [1 - LONG, LONG + 2, 0]), steps["just"]])])
        self.assertEqual(sets_of(one), ([], [[0, 1]], []))
        check_settled(self, one)
        # from so great a number on it falls by one or more, from any above nought by ever less
        for low, sets in ((LONG + 1, ([], [[0]], [])), (0, ([], [], [0]))):
            one = (["x"], ["a"], [(0, 0, [("least", [-low, 1, 0]), ("just", [0, LONG, -LONG - 1])])])
            self.assertEqual(sets_of(one), sets)
            check_settled(self, one)

    def test_a_fall_of_less_than_one(self):
        # however little x falls at each step, so many times as much is one or more
        for bottom in (2, 1000, LONG):
            one = (["x"], ["a"], [(0, 0, [("least", [0, 1, 0]), ("just", [1, -bottom, bottom])])])
            word, never, ranks, mixtures = check_settled(self, one)
            self.assertEqual((word, len(ranks)), ("ends", 1))

    def test_weighings_that_are_lifted_and_let_down(self):
        for low in (-LONG, -7, 0, 7, LONG):
            one = (["x"], ["a"], [(0, 0, [("least", [-low, 1, 0]), ("least", [-1, 1, -1])])])
            word, never, ranks, mixtures = check_settled(self, one)
            self.assertEqual((word, len(ranks)), ("ends", 1))


class Largest(unittest.TestCase):
    """Ten rows of twelve wishes over three numbers, round by six places."""

    def largest(self, dice, first):
        rows = []
        for row in range(10):
            start, to = row % 6, (row + 1) % 6
            wishes = first(start, to)
            while len(wishes) < 12:
                wishes.append(("least", [dice.randint(0, 9)] + [dice.randint(-3, 3) for number in range(6)]))
            rows.append((start, to, wishes))
        return (["x", "y", "z"], ["a", "b", "c", "d", "e", "f"], rows)

    def test_left(self):
        one = self.largest(random.Random(1), lambda start, to: [])
        self.assertEqual(sets_of(one), ([], [], list(range(10))))
        check_settled(self, one)
        ring = round_met(one)[0]
        self.assertEqual(len(ring), 6)
        self.assertTrue(lets_round(one, round_of(one, ring * 2)))

    def test_ends(self):
        dice = random.Random(2)
        weighing = [[dice.randint(-3, 3) for number in range(4)] for place in range(6)]

        def falls(start, to):
            ahead, behind = weighing[start], weighing[to]
            return [("least", ahead + [0, 0, 0]), ("least", [ahead[0] - behind[0] - 1, *ahead[1:], *[-number for number in behind[1:]]])]

        one = self.largest(dice, falls)
        word, never, ranks, mixtures = check_settled(self, one)
        self.assertEqual((word, len(ranks)), ("ends", 1))
        self.assertIsNone(round_met(one))
        self.assertIsNone(round_of(one, [0, 1, 2, 3, 4, 5] * 2))


class Found(unittest.TestCase):
    """Programs by dice."""

    def programs(self, seed, many, **sizes):
        dice = random.Random(seed)
        return [some_program(dice, **sizes) for turn in range(many)]

    def test_all_kinds(self):
        told = {}
        for sizes in ({"most_wishes": 4}, {"most_wishes": 12}, {"most_rows": 4, "most_wishes": 6, "size": 1}):
            for one in self.programs(24, 250, **sizes):
                word, never, ranks, mixtures = check_settled(self, one)
                told[word, len(ranks)] = told.get((word, len(ranks)), 0) + 1
        for kind in (("ends", 0), ("ends", 1), ("ends", 2), ("left", 0), ("left", 1), ("left", 2)):
            self.assertGreater(told.get(kind, 0), 2, kind)

    def test_each_row_that_any_weighing_makes_fall(self):
        falls = stays = 0
        for one in self.programs(25, 120, most_rows=4, most_wishes=4, size=2):
            word, never, ranks, mixtures = settled(one)
            for at in range(len(ranks) + 1):
                left = left_by(one, never, ranks[:at])
                fallen = [] if at == len(ranks) else [entry[0] for entry in ranks[at][1] if entry[1]]
                for row in left:
                    self.assertEqual(rank_of(one, left, [row]) is not None, row in fallen)
                    falls += row in fallen
                    stays += row not in fallen
        self.assertGreater(min(falls, stays), 50)

    def test_in_no_other_ranks_a_row_falls_earlier(self):
        dice = random.Random(26)
        seen = 0
        for one in self.programs(26, 150, most_rows=4, most_wishes=5, size=2):
            sets = sets_of(one)
            left = sorted(row for rows in (*sets[1], sets[2]) for row in rows)
            ranks = 0
            while True:
                found = [rank for rank in (rank_of(one, left, [row]) for row in left) if rank is not None]
                if not found:
                    break
                fallen = [row for row, falls, fall, bound in dice.choice(found)[1] if falls]
                for row in fallen:
                    self.assertGreaterEqual(ranks, rank_in(sets, row))
                left = [row for row in left if row not in fallen]
                ranks += 1
            self.assertEqual(left, sets[2])
            self.assertGreaterEqual(ranks, len(sets[1]))
            seen += ranks > len(sets[1])
        self.assertGreater(seen, 10)

    def test_put_otherwise(self):
        dice = random.Random(27)
        for one in self.programs(27, 80, most_wishes=5) + [one for one, sets in SETTLED.values()]:
            sets = sets_of(one)
            places, numbers = list(range(len(one[1]))), list(range(len(one[0])))
            dice.shuffle(places)
            dice.shuffle(numbers)
            for other in (places_ordered(one, places), numbers_ordered(one, numbers),
                          numbers_ordered(places_ordered(one, places[::-1]), numbers[::-1]), read_program(shown_program(one))):
                self.assertEqual(sets_of(other), sets)
                self.assertEqual(check_settled(self, other)[0], settled(one)[0])

    def test_in_parts(self):
        for one in self.programs(28, 80, most_wishes=5) + [one for one, sets in SETTLED.values()]:
            never, ranks, left = sets_of(one)
            going = [row for row in range(len(one[2])) if row not in never]
            # what is left behind each rank is told as before, and without those that never go nothing is told otherwise
            for at in range(len(ranks) + 1):
                part = part_of(one, going)
                self.assertEqual(sets_of(part), ([], [[going.index(row) for row in rows] for rows in ranks[at:]],
                                                 [going.index(row) for row in left]))
                check_settled(self, part)
                going = [row for row in going if at == len(ranks) or row not in ranks[at]]
            self.assertEqual(sets_of(part_of(one, never)), (list(range(len(never))), [], []))
            for row in range(len(one[2])):
                alone = sets_of(part_of(one, [row]))
                self.assertEqual(alone[0], [0] if row in never else [])
                # by itself a row falls no later
                self.assertFalse(alone[2] and row not in never + left)

    def test_side_by_side(self):
        ones = [one for one in self.programs(29, 120, most_rows=5, most_wishes=5) + [one for one, sets in SETTLED.values()]
                if len(one[1]) < 4 and len(one[2]) < 6]
        seen = 0
        for one, other in zip(ones, ones[1:] + ones[:1]):
            one, other = without_names(one, "p"), without_names(other, "q")
            if len(one[0]) != len(other[0]):
                continue
            seen += 1
            both = beside(one, other)
            self.assertEqual(sets_of(both), side_by_side(sets_of(one), sets_of(other), len(one[2])))
            check_settled(self, both)
            many = len(one[2])
            self.assertEqual(sets_of(part_of(both, list(range(many)))), sets_of(one))
            self.assertEqual(sets_of(part_of(both, list(range(many, len(both[2]))))), sets_of(other))
        self.assertGreater(seen, 20)

    def test_walks_end(self):
        dice = random.Random(30)
        walked = 0
        for one in self.programs(30, 50, most_rows=5, most_wishes=5, size=2) + [one for one, sets in SETTLED.values()]:
            if settled(one)[0] != "ends":
                continue
            for turn in range(4):
                walk = Walk(one, dice.randrange(len(one[1])), some_numbers(dice, len(one[0]), 9))
                # that is far more than these weigh
                while walk.leading() and len(walk) < 200:
                    walk.step(dice.choice(walk.leading()))
                self.assertEqual(walk.leading(), [])
                walked += len(walk)
        self.assertGreater(walked, 200)

    def test_with_kept_wishes_put_in(self):
        # x falls by y, of which nothing is wanted; but where it is one or more at the start it stays so
        one = program("x y", "a", "a a: -y + y' = 0; -x + y + x' = 0; x >= 0")
        self.assertEqual(sets_of(one), ([], [], [0]))
        start, offered = (0, [("least", [-1, 0, 1])]), [[("least", [-1, 0, 1]), ("least", [-2, 0, 1]), ("least", [0, 1, 0])]]
        part, papers, lost = greatest(one, start, offered=offered)
        self.assertEqual(part, [[0]])
        helped = put_in(one, wishes=[[offered[0][number] for number in part[0]]])
        self.assertEqual(sets_of(helped), ([], [[0]], []))
        check_settled(self, helped)
        # every run of the program itself that begins where the start is granted ends
        for numbers in ([(5, 1), (1, 1)], [(7, 2), (3, 2)], [(-1, 1), (1, 1)]):
            walk = Walk(one, 0, numbers)
            while walk.leading() and len(walk) < 20:
                walk.step(0)
            self.assertEqual(walk.leading(), [])

    def test_kept_parts_by_dice(self):
        dice = random.Random(31)
        seen = 0
        for one in self.programs(31, 250, most_rows=4, most_wishes=4, size=2):
            start, offered = (dice.randrange(len(one[1])), some_wishes(dice, len(one[0]), 3)), some_offer(dice, one)
            part, papers, lost = greatest(one, start, offered=offered)
            helped = put_in(one, wishes=[[wishes[number] for number in numbers] for wishes, numbers in zip(offered, part)])
            sets = sets_of(one)
            more = sets_of(helped)
            check_settled(self, helped)
            seen += sets != more
            # with more wishes rows fall no later, and never what went at no time goes
            for row in range(len(one[2])):
                self.assertTrue(row not in sets[0] or row in more[0])
                self.assertTrue(row in more[0] or rank_in(more, row) <= rank_in(sets, row) or row in sets[2])
        self.assertGreater(seen, 20)

    def test_mixtures_bar_ranks(self):
        for one in self.programs(32, 60, most_rows=4, most_wishes=4, size=2):
            word, never, ranks, mixtures = settled(one)
            if word == "left":
                left = barred(mixtures[-1])
                for row in left:
                    self.assertIsNone(rank_of(one, left, [row]))


if __name__ == "__main__":
    unittest.main()
