"""Points [15], [16] and [18]: papers for a part of what is offered, and wishes put into a program."""

import itertools
import random
import unittest

from downweigh.errors import NoOffer, NoStart, TooMany
from downweigh.kept import lets_kept, put_in
from downweigh.programs import look_at
from downweigh.walks import Walk
from downweigh.wishes import grants
from tests.things import (
    DOWN, FROM_ONE, LOOP, STAYS, Sour, all_own, bent, both_ways, kept_as_is, odd_lists, odd_offers, odd_starts, odd_things,
    papers_by_follows, refused, some_numbers, some_offer, some_program, some_wishes, spoil, takes_programs_alone)

LONG = 10 ** 40
NOUGHT, ONE, TWO = (0, 1), (1, 1), (2, 1)
FROM_NOUGHT = ("least", [0, 1])
AT_MOST_FIVE = ("least", [5, -1])
# from a, where x is from nought to five, x falls at row 0 while it is from one on, row 1 leads on, row 2 never goes
PROGRAM = (["x"], ["a", "b"], [(0, 0, [FROM_ONE, DOWN]), (0, 1, [STAYS]), (1, 0, [("just", [1, 0, 0])])])
START = (0, [("just", [-3, 1])])
OFFERED = [[FROM_NOUGHT, AT_MOST_FIVE], [FROM_NOUGHT]]
PART = [[0, 1], [0]]
BEGIN = ("shares", [[ONE], [(-1, 1)]])
STEPS = [
    ("shares", [[ONE, ONE, NOUGHT, NOUGHT], [NOUGHT, (-1, 1), NOUGHT, ONE]]),
    ("shares", [[ONE, ONE, NOUGHT]]),
    ("none", [(-1, 1), NOUGHT]),
]


class Papers(unittest.TestCase):
    def lets(self, thing, part=PART, start=START, offered=OFFERED, program=PROGRAM):
        told = lets_kept(program, start, offered, part, thing)
        self.assertIn(told, (True, False))
        self.assertIs(type(told), bool)
        return told

    def test_papers(self):
        self.assertTrue(self.lets((BEGIN, STEPS)))
        told = both_ways(self, lets_kept, program=PROGRAM, start=START, offered=OFFERED, part=PART, thing=(BEGIN, STEPS))
        self.assertIs(told, True)
        self.assertTrue(kept_as_is(self, lets_kept, PROGRAM, START, OFFERED, PART, (BEGIN, STEPS)))

    def test_more_than_is_carried(self):
        # what they add up to may have a plain number that is less
        start = (0, [FROM_NOUGHT, ("least", [2, -1])])
        self.assertTrue(self.lets((("shares", [[ONE, NOUGHT], [NOUGHT, ONE]]), STEPS), start=start))
        self.assertFalse(self.lets((("shares", [[ONE, NOUGHT], [NOUGHT, TWO]]), STEPS), start=start))
        start = (0, [FROM_NOUGHT, ("least", [6, -1])])
        self.assertFalse(self.lets((("shares", [[ONE, NOUGHT], [NOUGHT, ONE]]), STEPS), start=start))

    def test_shares_of_a_row_that_never_goes(self):
        # carried in full beside the wishes ahead: just 1 = 0 makes up for nothing with factors
        for step, wanted in ((("none", [(-1, 1), NOUGHT]), True), (("none", [(-2, 1), NOUGHT]), True),
                             (("none", [ONE, NOUGHT]), False), (("none", [(-1, 2), NOUGHT]), False),
                             (("none", [(-1, 1)]), False), (("none", [(-1, 1), NOUGHT, NOUGHT]), False),
                             (("none", [(-1, 1), ONE]), False), (("none", [(-1, 1), (-1, 1)]), False),
                             (("shares", [[NOUGHT, ONE], [NOUGHT, ONE]]), False), (("shares", []), False)):
            self.assertIs(self.lets((BEGIN, [*STEPS[:2], step])), wanted, step)

    def test_none_is_without_factors_ahead_and_behind(self):
        for line, wanted in (([-1, 0, 0], True), ([-1, 1, 0], False), ([-1, 0, 1], False), ([0, 0, 0], False)):
            program = (["x"], ["a"], [(0, 0, [("least", line)])])
            papers = (("shares", []), [("none", [ONE])])
            self.assertIs(self.lets(papers, part=[[]], start=(0, []), offered=[[]], program=program), wanted)

    def test_a_start_that_can_t_be_granted(self):
        start = (0, [("least", [-4, 1]), ("least", [3, -1])])
        for begin, wanted in ((("none", [ONE, ONE]), True), (("none", [TWO, TWO]), True), (("none", [ONE, TWO]), False),
                              (("shares", [[ONE, ONE], [ONE, ONE]]), False), (("none", [[ONE, ONE]]), False),
                              (("none", []), False), (("shares", [[ONE, NOUGHT], [NOUGHT, ONE]]), True)):
            self.assertIs(self.lets((begin, STEPS), start=start), wanted, begin)

    def test_parts(self):
        nothing = ("shares", [])
        self.assertTrue(self.lets((nothing, [nothing] * 3), part=[[], []]))
        self.assertTrue(self.lets((nothing, [nothing, nothing, ("none", [(-1, 1)])]), part=[[], []]))
        self.assertFalse(self.lets((BEGIN, STEPS), part=[[], []]))
        self.assertFalse(self.lets((nothing, [nothing] * 3)))
        low = (("shares", [[ONE]]), [("shares", [[ONE, ONE, NOUGHT]]), ("shares", [[ONE, ONE]]), ("none", [(-1, 1), NOUGHT])])
        self.assertTrue(self.lets(low, part=[[0], [0]]))
        # x at most five follows from itself alone, not from x from nought on
        high = (("shares", [[(-1, 1)]]), [("shares", [[NOUGHT, (-1, 1), ONE]]), nothing, ("none", [(-1, 1)])])
        self.assertTrue(self.lets(high, part=[[1], []]))
        self.assertFalse(self.lets(high, part=[[0], []]))
        # x from nought on at b does not follow where it is not kept at a
        self.assertIsNone(papers_by_follows(PROGRAM, START, OFFERED, [[1], [0]]))
        for shares in itertools.product([NOUGHT, ONE, (-1, 1)], repeat=2):
            steps = [("shares", [[NOUGHT, (-1, 1), ONE]]), ("shares", [list(shares)]), ("none", [(-1, 1), NOUGHT])]
            self.assertFalse(self.lets((("shares", [[(-1, 1)]]), steps), part=[[1], [0]]))

    def test_a_part_without_wishes_at_a_place(self):
        program = (["x"], ["a"], [])
        self.assertTrue(self.lets((("shares", []), []), part=[[]], start=(0, []), offered=[[]], program=program))
        self.assertTrue(self.lets((("shares", []), []), part=[[]], start=(0, []), offered=[[FROM_NOUGHT]], program=program))
        self.assertFalse(self.lets((("shares", []), []), part=[[0]], start=(0, []), offered=[[FROM_NOUGHT]], program=program))
        self.assertFalse(self.lets((("none", []), []), part=[[]], start=(0, []), offered=[[]], program=program))
        # a wish that always holds follows from no wishes at all
        always = [[("least", [2, 0])]]
        self.assertTrue(self.lets((("shares", [[]]), []), part=[[0]], start=(0, []), offered=always, program=program))
        self.assertFalse(self.lets((("shares", [[ONE]]), []), part=[[0]], start=(0, []), offered=always, program=program))

    def test_what_is_no_part_has_no_papers(self):
        for part in ([[1, 0], [0]], [[0, 0], [0]], [[0, 1]], [[0, 1], [0], []], [[0, 2], [0]], [[0, True], [0]], ((0, 1), (0,)),
                     [[-1, 0], [0]], None, Sour()):
            self.assertFalse(self.lets((BEGIN, STEPS), part=part))

    def test_bent_at_each_place(self):
        told = {True: 0, False: 0}
        for thing in bent((BEGIN, STEPS)):
            told[self.lets(thing)] += 1
        # no bent share carries the same lines: each wish here stands in all of them but where it is nought
        self.assertGreater(told[False], 500)
        for thing in bent((BEGIN, STEPS)):
            if self.lets(thing):
                self.assertEqual(thing[0], BEGIN)
                self.assertEqual(thing[1][:2], STEPS[:2])
                self.assertEqual(thing[1][2][0], "none")

    def test_steps_exchanged_and_words_exchanged(self):
        self.assertFalse(self.lets((BEGIN, [STEPS[1], STEPS[0], STEPS[2]])))
        self.assertFalse(self.lets((STEPS[0], STEPS)))
        self.assertFalse(self.lets((STEPS, BEGIN)))
        self.assertFalse(self.lets((("none", BEGIN[1]), STEPS)))
        self.assertFalse(self.lets((("fails", BEGIN[1]), STEPS)))
        self.assertFalse(self.lets((("shares", BEGIN[1][::-1]), STEPS)))
        self.assertFalse(self.lets((BEGIN, STEPS, [])))
        self.assertFalse(self.lets((BEGIN, STEPS[:2])))
        self.assertFalse(self.lets((BEGIN, [*STEPS, STEPS[2]])))

    def test_of_anything(self):
        for thing in odd_things():
            for papers in (thing, (thing, STEPS), (BEGIN, thing), (BEGIN, [thing] * 3), (BEGIN, [*STEPS[:2], thing]),
                           (("shares", thing), STEPS), (("shares", [thing, thing]), STEPS), (("none", thing), STEPS),
                           (("shares", [[thing], [thing]]), STEPS), (thing, thing)):
                self.assertFalse(self.lets(papers))

    def test_just_kept_parts_have_papers(self):
        dice = random.Random(15)
        told = {True: 0, False: 0}
        for turn in range(150):
            program = some_program(dice, most_rows=4, most_wishes=4, size=2)
            start = (dice.randrange(len(program[1])), some_wishes(dice, len(program[0]), 3, 2))
            offered = some_offer(dice, program)
            part = [sorted(dice.sample(range(len(at)), dice.randint(0, min(1, len(at))))) for at in offered]
            papers = papers_by_follows(program, start, offered, part)
            told[papers is not None] += 1
            if papers is not None:
                self.assertTrue(lets_kept(program, start, offered, part, papers))
                self.holds_on_walks(dice, program, start, offered, part)
        self.assertGreater(min(told.values()), 20)

    def holds_on_walks(self, dice, program, start, offered, part):
        """The part's wishes hold at each state of a walk from a state that grants the start."""
        walk = Walk(program, start[0], some_numbers(dice, len(program[0])))
        if not grants(start[1], walk.numbers()):
            return
        for step in range(4):
            self.assertTrue(grants([offered[walk.here()][number] for number in part[walk.here()]], walk.numbers()))
            if walk.leading():
                walk.step(dice.choice(walk.leading()))


class RefusedStarts(unittest.TestCase):
    def test_what_is_no_start(self):
        for start in odd_starts():
            refused(self, NoStart, lets_kept, PROGRAM, start, OFFERED, PART, (BEGIN, STEPS))
            refused(self, NoStart, lets_kept, PROGRAM, start, Sour(), Sour(), Sour())

    def test_what_is_no_offer(self):
        for offered in odd_offers():
            refused(self, NoOffer, lets_kept, PROGRAM, START, offered, PART, (BEGIN, STEPS))
            refused(self, NoOffer, lets_kept, PROGRAM, START, offered, Sour(), Sour())

    def test_the_mosts(self):
        wish = ("least", [0, 1])
        start = (1, [wish, ("just", [0, 1])] * 6)
        part = [[], []]
        papers = (("shares", []), [("shares", [])] * 3)
        for offered in ([[wish] * 6, [wish] * 6], [[], []], [[("least", [LONG, -LONG])], []]):
            self.assertTrue(lets_kept(PROGRAM, start, offered, part, papers))

    def test_what_is_no_program_goes_first(self):
        takes_programs_alone(self, lambda thing: lets_kept(thing, START, OFFERED, PART, None))
        takes_programs_alone(self, lambda thing: lets_kept(thing, None, None, None, None))


class PutIn(unittest.TestCase):
    def test_behind_a_rows_own_of_the_numbers_ahead(self):
        wishes = [[FROM_NOUGHT, ("just", [7, -2])], [AT_MOST_FIVE]]
        told = put_in(PROGRAM, wishes=wishes)
        first = [("least", [0, 1, 0]), ("just", [7, -2, 0])]
        self.assertEqual(told, (["x"], ["a", "b"], [
            (0, 0, [FROM_ONE, DOWN, *first]), (0, 1, [STAYS, *first]), (1, 0, [("just", [1, 0, 0]), ("least", [5, -1, 0])])]))
        self.assertIsNone(look_at(told))
        self.assertEqual(put_in(program=PROGRAM, wishes=wishes), told)
        self.assertEqual(put_in(PROGRAM, wishes=[[], []]), PROGRAM)
        with self.assertRaises(TypeError):
            put_in(PROGRAM, wishes)

    def test_three_numbers(self):
        program = (["x", "y", "z"], ["a"], [(0, 0, [("just", [1, 2, 3, 4, 5, 6, 7])])])
        told = put_in(program, wishes=[[("least", [LONG, 8, 9, -LONG])]])
        self.assertEqual(told[2], [(0, 0, [("just", [1, 2, 3, 4, 5, 6, 7]), ("least", [LONG, 8, 9, -LONG, 0, 0, 0])])])

    def test_just_twelve_and_thirteen(self):
        for own in (0, 1, 11, 12):
            program = (["x"], ["a", "b"], [(0, 1, [STAYS] * own), (1, 0, [])])
            told = put_in(program, wishes=[[FROM_NOUGHT] * (12 - own), []])
            self.assertEqual([len(row[2]) for row in told[2]], [12, 0])
            refused(self, TooMany, put_in, program, wishes=[[FROM_NOUGHT] * (13 - own), []])
            self.assertEqual(len(put_in(program, wishes=[[], [FROM_NOUGHT] * 12])[2][1][2]), 12)
            refused(self, TooMany, put_in, program, wishes=[[], [FROM_NOUGHT] * 13])

    def test_as_many_as_one_likes_where_no_row_starts(self):
        program = (["x"], ["a", "b"], [(0, 1, [STAYS])])
        self.assertEqual(put_in(program, wishes=[[], [FROM_NOUGHT, ("just", [0, 1])] * 50]), program)
        self.assertEqual(put_in((["x"], ["a"], []), wishes=[[FROM_NOUGHT] * 99]), (["x"], ["a"], []))

    def test_what_are_no_lists_of_wishes(self):
        for wishes in odd_lists():
            refused(self, NoOffer, put_in, PROGRAM, wishes=wishes)
        # no offer goes ahead of too many
        refused(self, NoOffer, put_in, PROGRAM, wishes=[[FROM_NOUGHT] * 13, None])
        refused(self, NoOffer, put_in, PROGRAM, wishes=[[FROM_NOUGHT] * 13 + [None], []])

    def test_what_is_no_program_goes_first(self):
        takes_programs_alone(self, lambda thing: put_in(thing, wishes=[[]]))
        takes_programs_alone(self, lambda thing: put_in(thing, wishes=Sour()))

    def test_the_askers_own(self):
        line = [1, -1, 1]
        row = (0, 0, [("least", line), ("just", line)])
        program = (["x"], ["a"], [row, row])
        wish = ("least", [0, 1])
        wishes = [[wish, wish]]
        told = kept_as_is(self, put_in, program, wishes=wishes)
        all_own(self, told, program, wishes)
        spoil((program, wishes))
        self.assertEqual(told[2], [(0, 0, [("least", [1, -1, 1]), ("just", [1, -1, 1])] + [("least", [0, 1, 0])] * 2)] * 2)

    def test_rows_lead_from_where_the_wishes_are_granted(self):
        dice = random.Random(18)
        led = barred = 0
        for turn in range(150):
            program = some_program(dice, most_wishes=3, size=1)
            wishes = [some_wishes(dice, len(program[0]), 1) for place in program[1]]
            state = some_numbers(dice, len(program[0]))
            for place in range(len(program[1])):
                leading = Walk(program, place, state).leading()
                told = Walk(put_in(program, wishes=wishes), place, state).leading()
                if grants(wishes[place], state):
                    self.assertEqual(told, leading)
                    led += len(told)
                else:
                    self.assertEqual(told, [])
                    barred += len(leading)
        self.assertGreater(min(led, barred), 50)

    def test_programs_of_one_row(self):
        self.assertEqual(put_in(LOOP, wishes=[[FROM_NOUGHT]])[2], [(0, 0, [FROM_ONE, DOWN, ("least", [0, 1, 0])])])


if __name__ == "__main__":
    unittest.main()
