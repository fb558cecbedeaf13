"""Points [32], [33] and [3](i): a bench on which programs grow and shrink."""

import copy
import random
import unittest

from downweigh import errors
from downweigh.bench import Bench
from downweigh.mixtures import barred, lets_mixture
from downweigh.ranks import lets_ranks
from downweigh.settling import sets_of, settled
from tests.examples import SETTLED, program
from tests.things import (
    DOWN, FROM_ONE, LOOP, STAYS, Sour, all_own, odd_things, refused, some_program, some_wishes, spoil, takes_programs_alone)

FALLS = (0, 0, [FROM_ONE, DOWN])
STANDS = (0, 0, [FROM_ONE, STAYS])
NEVER = (0, 0, [("least", [-1, 0, 0])])
EMPTY = (["x"], ["a"], [])
NO_ROWS = [None, [], (), [0, 0, []], (0, 0), (0, 0, [], []), (1, 0, []), (0, 1, []), (-1, 0, []), (True, 0, []), (0, 0, None), (0, 0, [DOWN] * 13),
           (0, 0, [("just", [0, 1])]), (0, 0, ["x"]), ("a", "a", [])]
NO_WISHES = [None, (), [None], [DOWN] * 13, [("just", [0, 1])], [("just", [0, 1, 0, 0])], [["just", [0, 1, 0]]], DOWN, (DOWN,), {}, "x"]


def check_paper(test, one, word, paper):
    """The test fails where a paper is not let by for a program."""
    if word == "ends":
        never, ranks = paper
        test.assertTrue(lets_ranks(one, never, ranks))
    else:
        test.assertEqual(word, "left")
        rows, mixture = paper
        test.assertTrue(lets_mixture(one, rows, mixture))
        test.assertEqual(barred(mixture), rows)
    test.assertEqual(word == "left", sets_of(one)[2] != [])


def new_paper(one):
    """What a bench that keeps nothing tells."""
    word, never, ranks, mixtures = settled(one)
    return (word, (never, ranks)) if word == "ends" else (word, ([part[0] for part in mixtures[-1]], mixtures[-1]))


class Case(unittest.TestCase):
    def ask(self, bench, kept):
        """What the bench tells, looked at."""
        self.assertIs(bench.keeps(), kept)
        one = bench.program()
        told = bench.ask()
        self.assertIs(type(told), tuple)
        word, paper, was_kept = told
        self.assertIs(was_kept, kept)
        check_paper(self, one, word, paper)
        self.assertIs(bench.keeps(), True)
        self.assertEqual(bench.program(), one)
        return (word, paper)


class Deeds(Case):
    def test_made(self):
        takes_programs_alone(self, Bench)
        for one, sets in SETTLED.values():
            bench = Bench(one)
            self.assertEqual(bench.program(), one)
            self.assertEqual((bench.deeds(), bench.keeps(), len(bench), repr(bench)), (0, False, len(one[2]), f"Bench({len(one[2])})"))
            self.assertEqual(Bench(program=one).program(), one)

    def test_put(self):
        bench = Bench(EMPTY)
        for number, row in enumerate((FALLS, STANDS, NEVER, (0, 0, []), FALLS)):
            told = bench.put(row)
            self.assertEqual((told, type(told)), (number, int))
            self.assertEqual(bench.program()[2][number], row)
            self.assertEqual((len(bench), bench.deeds()), (number + 1, number + 1))
        self.assertEqual(Bench(LOOP).put(row=STANDS), 1)

    def test_full(self):
        bench = Bench((["x"], ["a"], [FALLS] * 9))
        self.assertEqual(bench.put(STANDS), 9)
        refused(self, errors.Full, bench.put, STANDS)
        self.assertEqual((len(bench), bench.deeds()), (10, 1))
        for row in NO_ROWS:
            self.assertIsNone(refused(self, errors.NoRow, bench.put, row).row)
        bench.take(3)
        self.assertEqual(bench.put(NEVER), 9)

    def test_rows_that_are_none(self):
        bench = Bench(LOOP)
        for row in NO_ROWS + odd_things():
            self.assertIsNone(refused(self, errors.NoRow, bench.put, row).row)
        self.assertEqual((bench.program(), bench.deeds()), (LOOP, 0))

    def test_take(self):
        bench = Bench((["x"], ["a"], [FALLS, STANDS, NEVER]))
        self.assertEqual(bench.take(1), STANDS)
        self.assertEqual(bench.program()[2], [FALLS, NEVER])
        self.assertEqual(bench.take(number=1), NEVER)
        self.assertEqual(bench.take(0), FALLS)
        self.assertEqual((bench.program(), bench.deeds(), len(bench)), (EMPTY, 3, 0))
        self.assertEqual(refused(self, errors.NoRow, bench.take, 0).row, 0)

    def test_numbers_of_no_rows(self):
        bench = Bench(LOOP)
        for number in [*odd_things(), 1, -1, 10 ** 40]:
            self.assertIs(refused(self, errors.NoRow, bench.take, number).row, number)
            self.assertIs(refused(self, errors.NoRow, bench.change, number, []).row, number)
            self.assertIs(refused(self, errors.NoRow, bench.change, number, Sour()).row, number)
        self.assertEqual((bench.program(), bench.deeds()), (LOOP, 0))

    def test_change(self):
        bench = Bench((["x"], ["a", "b"], [(0, 1, [DOWN]), (1, 0, [])]))
        self.assertIsNone(bench.change(0, [STAYS, FROM_ONE]))
        self.assertIsNone(bench.change(number=1, wishes=[DOWN] * 12))
        self.assertEqual(bench.program()[2], [(0, 1, [STAYS, FROM_ONE]), (1, 0, [DOWN] * 12)])
        bench.change(0, [])
        self.assertEqual((bench.program()[2][0], bench.deeds()), ((0, 1, []), 3))
        for wishes in NO_WISHES + odd_things():
            refused(self, errors.NoWishes, bench.change, 0, wishes)
        self.assertEqual(bench.deeds(), 3)

    def test_undo(self):
        bench = Bench(LOOP)
        refused(self, errors.Bare, bench.undo)
        states = [bench.program()]
        for deed in (lambda: bench.put(STANDS), lambda: bench.take(0), lambda: bench.put(NEVER), lambda: bench.change(0, [DOWN]),
                     lambda: bench.change(0, [DOWN]), lambda: bench.take(1), lambda: bench.take(0), lambda: bench.put(FALLS)):
            deed()
            states.append(bench.program())
        for many in reversed(range(len(states))):
            self.assertEqual((bench.program(), bench.deeds()), (states[many], many))
            if many:
                self.assertIsNone(bench.undo())
        refused(self, errors.Bare, bench.undo)
        self.assertEqual(bench.program(), LOOP)
        # what was undone is no deed more
        bench.put(STANDS)
        bench.undo()
        self.assertEqual(bench.put(NEVER), 1)
        bench.undo()
        refused(self, errors.Bare, bench.undo)

    def test_what_is_refused_changes_nothing(self):
        bench = Bench((["x"], ["a"], [FALLS] * 10))
        paper = self.ask(bench, False)
        for call, arguments in ((bench.put, (STANDS,)), (bench.put, (None,)), (bench.take, (10,)), (bench.change, (10, [])), (bench.change, (0, None)),
                                (bench.undo, ()), (bench.ask_with, ([FALLS],)), (bench.ask_with, ([None],)), (bench.ask_with, (None,))):
            with self.assertRaises((LookupError, ValueError, OverflowError, RuntimeError)):
                call(*arguments)
            self.assertEqual((bench.program()[2], bench.deeds(), bench.keeps()), ([FALLS] * 10, 0, True))
        self.assertEqual(self.ask(bench, True), paper)


class Asked(Case):
    def test_a_new_paper(self):
        for one, sets in SETTLED.values():
            bench = Bench(one)
            told = self.ask(bench, False)
            self.assertEqual(told, new_paper(one))
            if told[0] == "left":
                self.assertEqual(told[1][0], sets[2])
            self.assertEqual(self.ask(bench, True), told)
            self.assertEqual(self.ask(bench, True), told)

    def test_a_row_put(self):
        # a paper by which all ends goes
        bench = Bench(LOOP)
        self.ask(bench, False)
        bench.put(FALLS)
        self.assertEqual(self.ask(bench, False)[0], "ends")
        bench.put(STANDS)
        told = self.ask(bench, False)
        self.assertEqual((told[0], told[1][0]), ("left", [2]))
        # a paper of rows left stays, with the same rows
        bench.put(STANDS)
        self.assertEqual(self.ask(bench, True), told)
        bench.put(FALLS)
        bench.put(NEVER)
        self.assertEqual(self.ask(bench, True), told)

    def test_a_row_taken_out_of_what_ends(self):
        # rows 0 and 2 never go, row 1 falls at the first rank, rows 3 and 4 at the second one
        one = program("x y", "a", "a a: -1 = 0", "a a: x >= 0; 1 - x + x' = 0", "a a: -2 >= 0",
                      *["a a: x >= 0; y >= 0; -x + x' = 0; 1 - y + y' = 0"] * 2)
        for gone in range(5):
            bench = Bench(one)
            word, (never, ranks) = self.ask(bench, False)
            self.assertEqual(sets_of(one), ([0, 2], [[1], [3, 4]], []))
            bench.take(gone)
            word, (never_now, ranks_now) = self.ask(bench, True)
            down = {row: row - (row > gone) for row in range(5) if row != gone}
            self.assertEqual(word, "ends")
            self.assertEqual(never_now, [(down[row], shares) for row, shares in never if row != gone])
            self.assertEqual(ranks_now, [(weighing, [(down[entry[0]], *entry[1:]) for entry in entries if entry[0] != gone])
                                         for weighing, entries in ranks])
        bench = Bench(one)
        ranks = self.ask(bench, False)[1][1]
        for row in range(5):
            bench.take(0)
            self.ask(bench, True)
        # with no rows more the ranks stay, without entries
        self.assertEqual(self.ask(bench, True), ("ends", ([], [(weighing, []) for weighing, entries in ranks])))
        bench.put(FALLS[:2] + ([],))
        self.assertEqual(self.ask(bench, False)[0], "left")

    def test_a_row_taken_out_of_what_is_left(self):
        rows = [FALLS, STANDS, NEVER, STANDS, FALLS]
        for gone in range(5):
            bench = Bench((["x"], ["a"], rows))
            word, (left, mixture) = self.ask(bench, False)
            self.assertEqual((word, left), ("left", [1, 3]))
            bench.take(gone)
            stays = gone not in (1, 3)
            told = self.ask(bench, stays)
            if stays:
                down = [1 - (gone < 1), 3 - (gone < 3)]
                self.assertEqual(told, ("left", (down, [(row, *part[1:]) for row, part in zip(down, mixture)])))
            else:
                self.assertEqual(told[1][0], [1] if gone == 3 else [2])
        # rows that the paper is not of: some stood ahead of it, one was put behind it
        one = program("x y", "a b", "a a: x >= 0; 1 - x + x' = 0", "b b: -y + y' = 0", "a b:")
        bench = Bench(one)
        word, (left, mixture) = self.ask(bench, False)
        self.assertEqual((word, left), ("left", [1]))
        bench.put((1, 1, []))
        bench.take(3)
        self.assertEqual(self.ask(bench, True), (word, (left, mixture)))
        bench.take(2)
        self.assertEqual(self.ask(bench, True), (word, (left, mixture)))
        bench.take(0)
        self.assertEqual(self.ask(bench, True), (word, ([0], [(0, *mixture[0][1:])])))
        bench.take(0)
        self.assertEqual(self.ask(bench, False), ("ends", ([], [])))

    def test_other_wishes(self):
        for one in (LOOP, (["x"], ["a"], [FALLS, NEVER])):
            bench = Bench(one)
            self.ask(bench, False)
            for number in range(len(one[2])):
                # the very same ones, too
                bench.change(number, one[2][number][2])
                self.ask(bench, False)
        one = program("x y", "a b", "a a: x >= 0; 1 - x + x' = 0", "b b: -y + y' = 0", "a b:")
        bench = Bench(one)
        told = self.ask(bench, False)
        bench.change(0, [])
        self.assertEqual(self.ask(bench, True), told)
        bench.change(2, one[2][2][2])
        self.assertEqual(self.ask(bench, True), told)
        bench.change(1, one[2][1][2])
        self.assertEqual(self.ask(bench, False)[0], "left")

    def test_undone(self):
        one = program("x y", "a b", "a a: x >= 0; 1 - x + x' = 0", "b b: -y + y' = 0")
        for deed in (lambda bench: bench.put((0, 0, [])), lambda bench: bench.take(0), lambda bench: bench.change(0, [])):
            bench = Bench(one)
            deed(bench)
            self.ask(bench, False)
            bench.undo()
            self.ask(bench, False)
            # so it is where the paper would hold of both
            bench = Bench(one)
            self.ask(bench, False)
            deed(bench)
            self.assertIs(bench.keeps(), True)
            bench.undo()
            self.ask(bench, False)
        bench = Bench(LOOP)
        self.ask(bench, False)
        refused(self, errors.Bare, bench.undo)
        self.ask(bench, True)

    def test_the_askers_own(self):
        row = (0, 0, [FROM_ONE, DOWN, DOWN])
        for one in ((["x"], ["a"], [row, row, NEVER]), (["x"], ["a"], [STANDS, STANDS])):
            handed = copy.deepcopy(one)
            bench = Bench(handed)
            spoil(handed)
            self.assertEqual(bench.program(), one)
            for call in (bench.program, bench.ask, bench.ask, lambda: bench.ask_with([]), lambda: bench.ask_with([row, row])):
                told = call()
                all_own(self, told, one)
                spoil(told)
            self.assertEqual(bench.program(), one)
            self.assertEqual(self.ask(bench, True), new_paper(one))
        bench = Bench(EMPTY)
        handed = copy.deepcopy(row)
        bench.put(handed)
        spoil(handed)
        self.assertEqual(bench.program()[2], [row])
        wishes = [copy.deepcopy(DOWN)] * 2
        bench.change(0, wishes)
        spoil(wishes)
        self.assertEqual(bench.program()[2], [(0, 0, [DOWN, DOWN])])
        told = bench.take(0)
        spoil(told)
        bench.undo()
        self.assertEqual(bench.program()[2], [(0, 0, [DOWN, DOWN])])
        all_own(self, bench.program())


class AskedWith(Case):
    def test_with_rows(self):
        bench = Bench(LOOP)
        for rows in ([FALLS], [STANDS], [NEVER, FALLS], [STANDS] * 9, []):
            told = bench.ask_with(rows)
            self.assertIs(type(told), tuple)
            self.assertEqual(told, new_paper((["x"], ["a"], LOOP[2] + rows)))
            self.assertEqual((bench.program(), bench.deeds(), bench.keeps()), (LOOP, 0, False))
            self.assertEqual(bench.ask_with(rows=rows), told)

    def test_with_what_is_kept(self):
        bench = Bench(LOOP)
        told = self.ask(bench, False)
        self.assertEqual(bench.ask_with([]), told)
        # a paper by which all ends goes for that asking alone
        self.assertEqual(bench.ask_with([STANDS])[0], "left")
        self.assertEqual(self.ask(bench, True), told)
        bench.take(0)
        bench.put(STANDS)
        told = self.ask(bench, False)
        for rows in ([], [FALLS], [STANDS, STANDS]):
            self.assertEqual(bench.ask_with(rows), told)
        self.assertEqual((self.ask(bench, True), bench.deeds(), len(bench)), (told, 2, 1))

    def test_what_is_told_is_not_kept(self):
        bench = Bench(LOOP)
        bench.ask_with([STANDS])
        self.ask(bench, False)
        bench = Bench(LOOP)
        bench.ask_with([])
        self.ask(bench, False)

    def test_refused(self):
        for many, kept in ((0, False), (8, True), (10, False), (10, True)):
            bench = Bench((["x"], ["a"], [FALLS] * many))
            if kept:
                bench.ask()
            for row in NO_ROWS + odd_things():
                self.assertIsNone(refused(self, errors.NoRow, bench.ask_with, [row]).row)
            for rows in (None, (), (FALLS,), {}, "x", Sour(), 3):
                self.assertIsNone(refused(self, errors.NoRow, bench.ask_with, rows).row)
            refused(self, errors.Full, bench.ask_with, [FALLS] * (11 - many))
            # the first one that is none, or too many
            refused(self, errors.Full, bench.ask_with, [FALLS] * (11 - many) + [None])
            refused(self, errors.NoRow, bench.ask_with, [FALLS] * (10 - many) + [None, FALLS])
            self.assertEqual((len(bench), bench.deeds(), bench.keeps()), (many, 0, kept))

    def test_what_is_handed_in(self):
        rows = [STANDS, STANDS]
        handed = copy.deepcopy(rows)
        Bench(LOOP).ask_with(handed)
        self.assertEqual(handed, rows)


class Twins(Case):
    def test_len_and_repr(self):
        self.assertEqual((len(Bench(EMPTY)), repr(Bench(EMPTY)), str(Bench(EMPTY))), (0, "Bench(0)", "Bench(0)"))
        bench = Bench((["x"], ["a"], [FALLS] * 10))
        self.assertEqual((len(bench), repr(bench)), (10, "Bench(10)"))
        bench.take(0)
        self.assertEqual((len(bench), repr(bench)), (9, "Bench(9)"))

    def test_alike(self):
        one, other = Bench(LOOP), Bench(LOOP)
        self.assertTrue(one == other)
        self.assertFalse(one != other)
        other.put(STANDS)
        self.assertFalse(one == other)
        self.assertTrue(one != other)
        other.ask()
        other.undo()
        self.assertTrue(one == other)
        one.put(STANDS)
        one.take(0)
        self.assertTrue(one == Bench((["x"], ["a"], [STANDS])))
        for thing in (LOOP, None, "Bench(1)", 1, True, [], LOOP[2]):
            self.assertFalse(one == thing)
            self.assertTrue(one != thing)
        # other names, too, are another program
        self.assertFalse(Bench(EMPTY) == Bench((["y"], ["a"], [])))
        self.assertFalse(Bench(EMPTY) == Bench((["x"], ["b"], [])))

    def test_a_twin_goes_on_by_itself(self):
        bench = Bench(LOOP)
        bench.put(STANDS)
        told = self.ask(bench, False)
        twin = bench.twin()
        self.assertIs(type(twin), Bench)
        self.assertTrue(twin == bench)
        self.assertEqual((twin.deeds(), len(twin)), (1, 2))
        self.assertEqual(self.ask(twin, True), told)
        twin.undo()
        self.assertEqual((len(twin), len(bench), bench.deeds(), bench.keeps(), twin.keeps()), (1, 2, 1, True, False))
        refused(self, errors.Bare, twin.undo)
        bench.put(FALLS)
        bench.put(FALLS)
        self.assertEqual((len(twin), len(bench), twin.deeds(), bench.deeds()), (1, 4, 0, 3))
        twin.put(NEVER)
        bench.undo()
        self.assertEqual((len(twin), len(bench), twin.deeds(), bench.deeds()), (2, 3, 1, 2))
        bench.undo()
        self.assertEqual(twin.program()[2], [FALLS, NEVER])
        # the paper that a twin is asked for is its own
        one, other = Bench(LOOP), Bench(LOOP).twin()
        twin = one.twin()
        twin.ask()
        self.assertEqual((one.keeps(), twin.keeps(), other.keeps()), (False, True, False))


class Model(Case):
    """Deeds by dice, beside a list of programs and the paper that must be kept."""

    def behind_take(self, paper, gone):
        word, told = paper
        if word == "ends":
            never, ranks = told
            return (word, (self.shift(never, gone), [(weighing, self.shift(entries, gone)) for weighing, entries in ranks]))
        rows, mixture = told
        return None if gone in rows else (word, ([row - (row > gone) for row in rows], self.shift(mixture, gone)))

    def shift(self, parts, gone):
        return [(part[0] - (part[0] > gone), *part[1:]) for part in parts if part[0] != gone]

    def deed(self, dice, bench, one, paper, source):
        """Does a deed; tells the program and the paper that must be there."""
        names, places, rows = one
        kind = dice.choice(("put", "put", "take", "change"))
        if kind == "put" and len(rows) < 10:
            row = dice.choice(source)
            self.assertEqual(bench.put(row), len(rows))
            return ((names, places, rows + [row]), paper if paper and paper[0] == "left" else None)
        if not rows:
            return None
        number = dice.randrange(len(rows))
        if kind == "take":
            self.assertEqual(bench.take(number), rows[number])
            return ((names, places, rows[:number] + rows[number + 1:]), paper and self.behind_take(paper, number))
        wishes = dice.choice((rows[number][2], some_wishes(dice, 2 * len(names), 4)))
        bench.change(number, wishes)
        stays = paper and paper[0] == "left" and number not in paper[1][0]
        return ((names, places, [*rows[:number], (*rows[number][:2], wishes), *rows[number + 1:]]), paper if stays else None)

    def test_by_dice(self):
        dice = random.Random(32)
        kept = new = 0
        for turn in range(30):
            one = some_program(dice, most_rows=6, most_wishes=4, size=2)
            source = some_program(dice, most_rows=0)[2] + [(start, to, wishes) for start, to, wishes in one[2]] + [(0, 0, []), (0, 0, [
                ("least", [0, 1] + [0] * (2 * len(one[0]) - 1)), ("least", [-1, 1] + [0] * (len(one[0]) - 1) + [-1] + [0] * (len(one[0]) - 1))])]
            bench, past, paper = Bench(one), [], None
            for step in range(25):
                told = self.deed(dice, bench, one, paper, source) if dice.random() < 0.75 else None
                if told is not None:
                    past.append(one)
                    one, paper = told
                elif past and dice.random() < 0.3:
                    bench.undo()
                    one, paper = past.pop(), None
                self.assertEqual((bench.program(), bench.deeds(), len(bench), bench.keeps()), (one, len(past), len(one[2]), paper is not None))
                if dice.random() < 0.5:
                    rows = [dice.choice(source) for row in range(dice.randint(0, 10 - len(one[2])))]
                    with_rows = bench.ask_with(rows)
                    check_paper(self, (one[0], one[1], one[2] + rows), *with_rows)
                    if paper is not None and (rows == [] or paper[0] == "left"):
                        self.assertEqual(with_rows, paper)
                if dice.random() < 0.6:
                    asked = self.ask(bench, paper is not None)
                    kept += paper is not None
                    new += paper is None
                    self.assertEqual(asked, paper or new_paper(one))
                    paper = asked
                if dice.random() < 0.1:
                    bench = bench.twin()
        self.assertGreater(min(kept, new), 80)


if __name__ == "__main__":
    unittest.main()
