"""Points [9] and [3](a): what can be granted, and what follows."""

import random
import unittest

from downweigh.errors import NoNumber
from downweigh.follows import follows, granted, lets_follows, lets_granted
from downweigh.numbers import is_fraction
from downweigh.shares import carries
from downweigh.wishes import grants, worth
from tests.things import both_ways, kept_as_is, odd_things

LONG = 10 ** 40 - 1
LOW = ("least", [0, 1])
HIGH = ("least", [2, -1])
ONE = ("just", [-1, 1])
TWO = ("just", [-2, 1])
BAD_MANYS = [-1, 9, 10, -LONG, LONG]


class Case(unittest.TestCase):
    def look(self, many, wishes, line, first=None, word=None):
        """What is told of wishes, and of a line: both looked at by hand and by the checkers."""
        told = granted(many, wishes)
        self.look_at_granted(many, wishes, told)
        then = follows(many, wishes, line)
        self.assertIs(lets_follows(many, wishes, line, then), True)
        self.assertEqual(then[0] == "none", told[0] == "shares")
        if then[0] == "none":
            self.assertTrue(carries(wishes, [-1] + [0] * many, then[1]))
        elif then[0] == "shares":
            self.assertTrue(carries(wishes, line, then[1]))
        else:
            self.assertEqual(then[0], "fails")
            self.assertTrue(grants(wishes, then[1]) and worth(line, then[1])[0] < 0)
        self.assertIn(first, (None, told[0]))
        self.assertIn(word, (None, then[0]))

    def look_at_granted(self, many, wishes, told):
        self.assertIs(lets_granted(many, wishes, told), True)
        if told[0] == "numbers":
            self.assertEqual(len(told[1]), many)
            self.assertTrue(all(is_fraction(number) for number in told[1]))
            self.assertTrue(grants(wishes, told[1]))
        else:
            self.assertEqual(told[0], "shares")
            self.assertTrue(carries(wishes, [-1] + [0] * many, told[1]))


class Told(Case):
    def test_small_ones(self):
        for wishes, line, first, word in (
            ([LOW, HIGH], [0, 1], "numbers", "shares"), ([LOW, HIGH], [5, -1], "numbers", "shares"),
            ([LOW, HIGH], [1, -1], "numbers", "fails"), ([LOW, HIGH], [-1, 1], "numbers", "fails"),
            ([ONE], [-1, 1], "numbers", "shares"), ([ONE], [1, -1], "numbers", "shares"),
            ([ONE], [0, 1], "numbers", "shares"), ([ONE], [0, -1], "numbers", "fails"),
            ([ONE, TWO], [5, 3], "shares", "none"), ([ONE, TWO], [-1, 0], "shares", "none"),
            ([LOW, ("least", [-1, -1])], [0, 0], "shares", "none"), ([LOW], [0, 0], "numbers", "shares"),
            ([LOW], [-1, 0], "numbers", "fails"), ([LOW], [0, -1], "numbers", "fails"), ([LOW], [LONG, -1], "numbers", "fails"),
            ([("least", [-1, 2])], [-1, 3], "numbers", "shares"), ([("least", [-1, 2])], [-2, 3], "numbers", "fails"),
        ):
            self.look(1, wishes, line, first, word)

    def test_no_wishes(self):
        self.assertEqual(granted(0, []), ("numbers", []))
        for many in range(9):
            nought = [0] * many
            self.look(many, [], [0] + nought, "numbers", "shares")
            self.look(many, [], [5] + nought, "numbers", "shares")
            self.look(many, [], [-5] + nought, "numbers", "fails")
            if many:
                self.look(many, [], [5] + nought[1:] + [1], "numbers", "fails")
                self.look(many, [], [LONG] + nought[1:] + [-LONG], "numbers", "fails")

    def test_no_numbers(self):
        for word, plain, first in (("least", 0, "numbers"), ("least", 3, "numbers"), ("least", -3, "shares"),
                                   ("just", 0, "numbers"), ("just", 3, "shares"), ("just", -3, "shares")):
            for line in ([0], [7], [-7]):
                told = "none" if first == "shares" else "fails" if line[0] < 0 else "shares"
                self.look(0, [(word, [plain])], line, first, told)

    def test_a_line_that_fails_only_far_away(self):
        # ahead of where it fails there is much room in which it holds
        for far in (1, 1000, LONG):
            self.look(2, [("least", [0, 1, 0]), ("least", [0, 0, 1])], [far, -1, 0], "numbers", "fails")
            self.look(2, [("just", [0, 1, -1])], [far, -1, -1], "numbers", "fails")
            self.look(1, [("least", [-far, 1])], [far * far, -1], "numbers", "fails")

    def test_eight_numbers_and_twenty_four_wishes(self):
        # each number is at least the one ahead of it, the first at least 1, the last at most 3
        wishes = [("least", [-1, 1, 0, 0, 0, 0, 0, 0, 0]), ("least", [3, 0, 0, 0, 0, 0, 0, 0, -1])]
        for at in range(1, 8):
            wishes.append(("least", [0] + [1 if n == at else -1 if n == at - 1 else 0 for n in range(8)]))
        while len(wishes) < 24:
            wishes.append(("just" if len(wishes) == 20 else "least", [0] * 9))
        self.look(8, wishes, [3, -1, 0, 0, 0, 0, 0, 0, 0], "numbers", "shares")
        self.look(8, wishes, [-8, 1, 1, 1, 1, 1, 1, 1, 1], "numbers", "shares")
        self.look(8, wishes, [-9, 1, 1, 1, 1, 1, 1, 1, 1], "numbers", "fails")
        wishes[20] = ("just", [-7, 1, 0, 0, 0, 0, 0, 0, 0])
        self.look(8, wishes, [0, 1, 0, 0, 0, 0, 0, 0, 0], "shares", "none")

    def test_many_wishes(self):
        dice = random.Random(6)
        words = {}
        for turn in range(700):
            many = dice.randint(0, 8)
            size = dice.choice((1, 2, 9, LONG))
            words_now = ["least", "just"] if turn % 2 else ["least"]
            wishes = []
            for wish in range(dice.randint(0, 24 if turn % 5 == 0 else 7)):
                line = [dice.randint(-size, size) if dice.random() < 0.7 else 0 for place in range(many + 1)]
                wishes.append((dice.choice(words_now), line))
            line = [dice.randint(-size, size) for place in range(many + 1)]
            if wishes and turn % 3:
                line = [2 * one + other for one, other in zip(wishes[0][1], wishes[-1][1])]
                line[0] += dice.choice((0, 1, -1))
            self.look(many, wishes, line)
            word = follows(many, wishes, line)[0]
            words[word] = words.get(word, 0) + 1
        self.assertGreater(min(words["none"], words["shares"], words["fails"]), 50)

    def test_arguments_by_place_and_by_name(self):
        told = both_ways(self, granted, many=1, wishes=[LOW, HIGH])
        self.assertIs(both_ways(self, lets_granted, many=1, wishes=[LOW, HIGH], thing=told), True)
        told = both_ways(self, follows, many=1, wishes=[LOW, HIGH], line=[3, -1])
        self.assertIs(both_ways(self, lets_follows, many=1, wishes=[LOW, HIGH], line=[3, -1], thing=told), True)

    def test_what_is_handed_in_stays_and_what_is_told_is_the_askers_own(self):
        for wishes, line in (([LOW, HIGH], [3, -1]), ([LOW, ONE], [0, -1]), ([ONE, TWO], [0, 0]), ([], [0, -1])):
            for call, arguments in ((granted, (1, wishes)), (follows, (1, wishes, line))):
                told = kept_as_is(self, call, *arguments)
                checker = lets_granted if call == granted else lets_follows
                self.assertIs(kept_as_is(self, checker, *arguments, told), True)
                told[1].append("mine")
                told[1][0] = None
                again = call(*arguments)
                self.assertIs(checker(*arguments, again), True)
                self.assertIsNot(again[1], call(*arguments)[1])


class Looking(unittest.TestCase):
    def test_numbers(self):
        for numbers, told in (([(1, 2)], True), ([(0, 1)], True), ([(2, 1)], True), ([(-1, 9)], False), ([(19, 9)], False)):
            self.assertIs(lets_granted(1, [LOW, HIGH], ("numbers", numbers)), told)
            self.assertIs(lets_follows(1, [LOW, HIGH], [0, 1], ("numbers", numbers)), False)
        for thing in ([(1, 2)], ["numbers", [(1, 2)]], ("numbers", ((1, 2),)), ("numbers", [(2, 4)]), ("numbers", []),
                      ("numbers", [(1, 2), (1, 2)]), ("numbers", [1]), ("number", [(1, 2)]), ("fails", [(1, 2)]),
                      ("numbers", [(1, 2)], 3), ("numbers", [[1, 2]]), ("none", [(1, 2)]), ("shares", [(1, 2)])):
            self.assertIs(lets_granted(1, [LOW, HIGH], thing), False)

    def test_shares_for_what_cannot_be(self):
        wishes = [LOW, ("least", [-1, -1])]
        for shares, told in (([(1, 1), (1, 1)], True), ([(2, 1), (2, 1)], True), ([(1, 2), (1, 2)], False),
                             ([(1, 1), (2, 1)], False), ([(0, 1), (0, 1)], False), ([(-1, 1), (-1, 1)], False),
                             ([(1, 1)], False), ([(1, 1), (1, 1), (0, 1)], False)):
            self.assertIs(lets_granted(1, wishes, ("shares", shares)), told)
            self.assertIs(lets_follows(1, wishes, [5, 5], ("none", shares)), told)
            self.assertIs(lets_granted(1, wishes, ("none", shares)), False)

    def test_shares_that_carry_where_no_numbers_grant_all(self):
        wishes = [LOW, ("least", [-1, -1])]
        self.assertIs(lets_follows(1, wishes, [0, 1], ("shares", [(1, 1), (0, 1)])), True)
        self.assertIs(lets_follows(1, wishes, [0, 2], ("shares", [(1, 1), (0, 1)])), False)
        self.assertEqual(follows(1, wishes, [0, 1])[0], "none")

    def test_shares_that_carry(self):
        for shares, told in (([(0, 1), (1, 1)], True), ([(1, 1), (2, 1)], False), ([(0, 1), (2, 1)], False),
                             ([(0, 1), (1, 2)], False), ([(0, 1)], False), ([(-1, 1), (0, 1)], False)):
            self.assertIs(lets_follows(1, [LOW, HIGH], [3, -1], ("shares", shares)), told)
        self.assertIs(lets_follows(1, [LOW, HIGH], [1, -1], ("shares", [(0, 1), (1, 1)])), False)
        self.assertIs(lets_follows(1, [LOW, HIGH], [3, -1], ("none", [(0, 1), (1, 1)])), False)
        self.assertIs(lets_granted(1, [LOW, HIGH], ("shares", [(0, 1), (1, 1)])), False)

    def test_fails(self):
        for number, told in (((2, 1), True), ((3, 2), True), ((1, 1), False), ((1, 2), False), ((3, 1), False)):
            self.assertIs(lets_follows(1, [LOW, HIGH], [1, -1], ("fails", [number])), told)
        for thing in (("fails", []), ("fails", [(2, 1), (2, 1)]), ("fails", ((2, 1),)), ("fails", [(4, 2)]), ("fails", [2]),
                      ["fails", [(2, 1)]], ("numbers", [(2, 1)]), ("fail", [(2, 1)]), ("fails", [(2, 1)], [])):
            self.assertIs(lets_follows(1, [LOW, HIGH], [1, -1], thing), False)

    def test_right_answers_bent_at_one_place(self):
        cases = [(2, [("just", [-3, 1, 1]), ("least", [0, 1, 0])], line) for line in ([-3, 1, 1], [4, -1, -1], [0, 0, -1])]
        cases.append((2, [("just", [-3, 1, 0]), ("just", [-4, 1, 0]), ("just", [-3, 0, 1])], [0, 1, 1]))
        for many, wishes, line in cases:
            word, parts = follows(many, wishes, line)
            for at in range(len(parts)):
                for part in ((parts[at][0] + 7 * parts[at][1], parts[at][1]), 1, None, (0, 2)):
                    bent = [part if other == at else kept for other, kept in enumerate(parts)]
                    if word == "fails" and lets_follows(many, wishes, line, (word, bent)):
                        self.assertTrue(grants(wishes, bent) and worth(line, bent)[0] < 0)
                    else:
                        self.assertIs(lets_follows(many, wishes, line, (word, bent)), False)

    def test_of_anything(self):
        for many, wishes in ((0, []), (0, [("least", [-1])]), (1, [LOW, HIGH]), (1, [ONE, TWO]), (2, [("just", [1, 2, 3])])):
            line = [-1] + [0] * many
            for thing in odd_things():
                self.assertIs(lets_granted(many, wishes, thing), False)
                self.assertIs(lets_follows(many, wishes, line, thing), False)
                for word in ("numbers", "shares", "none", "fails"):
                    for told in ((word, thing), (word, [thing] * (1 + max(many, len(wishes))))):
                        self.assertIs(lets_granted(many, wishes, told), False)
                        self.assertIs(lets_follows(many, wishes, line, told), False)


class Refused(unittest.TestCase):
    def test_no_number_of_numbers_ahead_of_all_else(self):
        calls = (
            lambda many: granted(many, [LOW]), lambda many: follows(many, [LOW], [0, 1]),
            lambda many: lets_granted(many, [LOW], ("numbers", [(0, 1)])),
            lambda many: lets_follows(many, [LOW], [0, 1], ("fails", [(0, 1)])),
            lambda many: granted(many, None), lambda many: follows(many, None, None),
            lambda many: lets_granted(many, None, None), lambda many: lets_follows(many, None, None, None),
            lambda many: granted(many=many, wishes=[]), lambda many: lets_granted(many=many, wishes=[], thing=None),
        )
        for many in [*BAD_MANYS, *odd_things()]:
            for call in calls:
                with self.assertRaises(NoNumber) as caught:
                    call(many)
                self.assertIs(caught.exception.thing, many)


if __name__ == "__main__":
    unittest.main()
