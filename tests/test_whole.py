"""Point [3]: the promise over the whole program, letter by letter, on programs and codes by dice."""

import random
import unittest

from downweigh import errors
from downweigh.bench import Bench
from downweigh.bounds import most_steps
from downweigh.codetexts import read_code, shown_code
from downweigh.desk import Desk
from downweigh.follows import follows, granted, lets_follows, lets_granted
from downweigh.kept import lets_kept, put_in
from downweigh.lost import greatest, lets_lost
from downweigh.making import made
from downweigh.mixtures import barred, lets_mixture
from downweigh.otherwise import beside, numbers_ordered, part_of, places_ordered
from downweigh.progtexts import read_program, shown_program
from downweigh.ranks import left_by, lets_ranks
from downweigh.rounds import gone, lets_round, mixture_of, round_met
from downweigh.settling import sets_of, settled
from downweigh.shares import carries
from downweigh.walks import Walk
from downweigh.wishes import grants, worth
from tests.examples import SETTLED, check_settled, program
from tests.finder import mixture_of as mixture_found
from tests.finder import rank_of
from tests.somecodes import some_code
from tests.things import some_line, some_numbers, some_offer, some_program, some_wishes


def made_by_dice(dice, many):
    """Programs of codes, as many as come of so many."""
    told = []
    for turn in range(many):
        names = ["x", "y", "z"][:dice.randint(1, 3)]
        try:
            told.append(made(names, some_code(dice, len(names), deep=3)))
        except errors.TooMany:
            continue
    return told


class Whole(unittest.TestCase):
    def setUp(self):
        self.dice = random.Random(3)
        self.programs = [one for one, sets in SETTLED.values()] + made_by_dice(self.dice, 80)
        self.programs += [some_program(self.dice, most_rows=5, most_wishes=5, size=2) for turn in range(80)]

    def walk_to_its_end(self, walk, most=150):
        while walk.leading() and len(walk) < most:
            walk.step(self.dice.choice(walk.leading()))
        self.assertEqual(walk.leading(), [])

    def test_a_of_wishes(self):
        for turn in range(200):
            many = self.dice.randint(0, 4)
            wishes, line = some_wishes(self.dice, many, 7), some_line(self.dice, many)
            word, told = granted(many, wishes)
            self.assertTrue(lets_granted(many, wishes, (word, told)))
            self.assertEqual(word == "numbers", not carries(wishes, [-1] + [0] * many, told))
            answer, paper = follows(many, wishes, line)
            self.assertEqual(answer == "none", word == "shares")
            self.assertTrue(lets_follows(many, wishes, line, (answer, paper)))
            if answer == "fails":
                self.assertTrue(grants(wishes, paper) and worth(line, paper)[0] < 0)

    def test_b_runs_end(self):
        walked = 0
        for one in self.programs:
            word, never, ranks, mixtures = settled(one)
            if lets_ranks(one, never, ranks):
                walk = Walk(one, self.dice.randrange(len(one[1])), some_numbers(self.dice, len(one[0]), 7))
                self.walk_to_its_end(walk)
                walked += len(walk)
        self.assertGreater(walked, 100)

    def test_c_ranks_or_rows_left(self):
        words = {"ends": 0, "left": 0}
        for one in self.programs:
            word, never, ranks, mixtures = settled(one)
            words[word] += 1
            self.assertEqual(lets_ranks(one, never, ranks), word == "ends")
            if word == "left":
                left = left_by(one, never, ranks)
                self.assertTrue(lets_mixture(one, left, mixtures[-1]))
                self.assertEqual(barred(mixtures[-1]), left)
                self.assertTrue(all(rank_of(one, left, [row]) is None for row in left[:2]))
        self.assertGreater(min(words.values()), 30)

    def test_d_as_few_ranks_as_there_can_be(self):
        for one in self.programs:
            check_settled(self, one)
        for one in self.programs[:40]:
            never, ranks, left = sets_of(one)
            rows = sorted(row for some in (*ranks, left) for row in some)
            for fallen in ranks:
                for row in rows[:4]:
                    self.assertEqual(mixture_found(one, rows, row) is None, row in fallen)
                rows = [row for row in rows if row not in fallen]

    def test_e_bounds(self):
        for one in self.programs:
            word, never, ranks, mixtures = settled(one)
            if word == "ends" and len(ranks) < 2:
                place, numbers = self.dice.randrange(len(one[1])), some_numbers(self.dice, len(one[0]), 7)
                walk = Walk(one, place, numbers)
                self.walk_to_its_end(walk)
                self.assertLessEqual(len(walk), most_steps(one, never, ranks, place=place, numbers=numbers))

    def test_f_rounds(self):
        met = 0
        for one in self.programs:
            told = round_met(one)
            if told is None:
                continue
            met += 1
            self.assertTrue(lets_round(one, told))
            states = gone(one, told, laps=7)
            walk = Walk(one, *states[0])
            walk.go([(row, behind) for row, (place, behind) in zip(told[0] * 7, states[1:])])
            self.assertEqual(walk.states(), states)
            rows = sorted(set(told[0]))
            mixture = mixture_of(one, told)
            self.assertTrue(lets_mixture(one, rows, mixture))
            self.assertEqual(barred(mixture), rows)
            word, never, ranks, mixtures = settled(one)
            self.assertFalse(lets_ranks(one, never, ranks))
        self.assertGreater(met, 30)

    def test_g_kept_wishes(self):
        for one in self.programs[:120]:
            start = (self.dice.randrange(len(one[1])), some_wishes(self.dice, len(one[0]), 2))
            offered = some_offer(self.dice, one)
            part, papers, lost = greatest(one, start, offered=offered)
            self.assertTrue(lets_kept(one, start, offered, part, papers))
            self.assertTrue(lets_lost(one, start, offered, lost))
            told = sorted([(place, number) for place, numbers in enumerate(part) for number in numbers] + [some[:2] for some in lost])
            self.assertEqual(told, [(place, number) for place, wishes in enumerate(offered) for number in range(len(wishes))])
            word, numbers = granted(len(one[0]), start[1])
            walk = Walk(one, start[0], numbers) if word == "numbers" else None
            while walk and walk.leading() and len(walk) < 8:
                walk.step(self.dice.choice(walk.leading()))
            for place, now in walk.states() if walk is not None else []:
                self.assertTrue(grants([offered[place][number] for number in part[place]], now))

    def test_h_codes(self):
        # x is counted down by a round in which y may become anything
        names = ["x", "y"]
        text = "round -1 + x >= 0\nput x = -1 + x\nread y\nend\nwant y >= 0"
        one = made(names, read_code(names, text))
        self.assertEqual(shown_code(names, read_code(names, text)), text)
        walk = Walk(one, 0, [(2, 1), (5, 1)])
        walk.go([(0, None), (1, None), (2, [(1, 1), (-4, 1)]), (1, None), (2, [(0, 1), (7, 2)]), (3, None), (4, None)])
        self.assertEqual((walk.here(), walk.numbers()), (1, [(0, 1), (7, 2)]))
        walk = Walk(one, 0, [(0, 1), (5, 1)])
        walk.step(0)
        self.assertEqual(walk.leading(), [3])

    def test_i_put_otherwise_and_on_a_bench(self):
        for one in self.programs[:100]:
            sets = sets_of(one)
            places, numbers = list(range(len(one[1]))), list(range(len(one[0])))
            self.dice.shuffle(places)
            self.dice.shuffle(numbers)
            for other in (places_ordered(one, places), numbers_ordered(one, numbers), read_program(shown_program(one)),
                          part_of(one, list(range(len(one[2]))))):
                self.assertEqual(sets_of(other), sets)
            bench = Bench((one[0], one[1], []))
            for row in one[2]:
                bench.put(row)
            word, paper, kept = bench.ask()
            self.assertEqual(word == "ends", sets[2] == [])
            desk = Desk()
            desk.say("program p " + shown_program(one).replace("\n", "; "))
            self.assertEqual(desk.say("settle p").split(" ")[0], word)
        two = beside(program("x", "a", "a a: x >= 0; 1 - x + x' = 0"), program("y", "b", "b b: x >= 0".replace("x", "y")))
        self.assertEqual(sets_of(two), ([], [[0]], [1]))

    def test_j_with_a_kept_part_put_in(self):
        # from y at nought or more on, y is never below nought: without that x falls by nothing that is known
        one = program("x y", "a", "a a: x >= 0; 1 - x + y + x' = 0; 1 + y - y' >= 0; -y + y' >= 0")
        self.assertEqual(sets_of(one)[2], [0])
        start, offered = (0, [("least", [0, 0, 1])]), [[("least", [0, 0, 1]), ("least", [5, 0, -1])]]
        part, papers, lost = greatest(one, start, offered=offered)
        self.assertEqual(part, [[0]])
        helped = put_in(one, wishes=[[offered[0][0]]])
        word, never, ranks, mixtures = settled(helped)
        self.assertTrue(lets_ranks(helped, never, ranks))
        for turn in range(20):
            numbers = some_numbers(self.dice, 2, 9)
            if grants(start[1], numbers):
                walk = Walk(one, 0, numbers)
                self.walk_to_its_end(walk)
                self.assertLessEqual(len(walk), most_steps(helped, never, ranks, numbers=numbers))


if __name__ == "__main__":
    unittest.main()
