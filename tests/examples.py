"""Programs by their texts, and what is promised of each that is settled."""

from downweigh.follows import granted
from downweigh.mixtures import barred, lets_mixture
from downweigh.progtexts import read_program
from downweigh.ranks import left_by, lets_ranks
from downweigh.settling import sets_of, settled


def program(numbers, places, *rows):
    """A program; each row is told as `PLACE PLACE: WISH; WISH ..`."""
    texts = ["numbers " + numbers, "places " + places]
    for row in rows:
        way, colon, wishes = row.partition(":")
        texts.append("row " + way.strip())
        texts.extend(wish.strip() for wish in wishes.split(";") if wish.strip())
    return read_program("\n".join(texts))


NEVER_GOES = "a a: -1 >= 0"
COUNT_DOWN = "a a: -1 + x >= 0; 1 - x + x' = 0"
STAYS = "a a: -x + x' = 0"
ROUND_WAYS = ("a b", "b c", "c d", "d e", "e f", "a c", "b d", "c e", "d f")

# each with the sets that are to be told: never, those of each rank, left
SETTLED = {
    "no rows": (program("x", "a"), ([], [], [])),
    "never alone": (program("x", "a", NEVER_GOES), ([0], [], [])),
    "never by two wishes": (program("x", "a", "a a: -1 + x >= 0; -x >= 0"), ([0], [], [])),
    "never in between": (program("x", "a b", "a b:", "b a: -x' = 0; -1 + x' >= 0", "b b: -1 + x >= 0; 1 - x + x' >= 0; 1 - x + x' = 0"),
                         ([1], [[0], [2]], [])),
    "one step": (program("x", "a b", "a b:"), ([], [[0]], [])),
    "count down": (program("x", "a", COUNT_DOWN), ([], [[0]], [])),
    "halved while from one on": (program("x", "a", "a a: -1 + x >= 0; -x + 2*x' = 0"), ([], [[0]], [])),
    "halved while above nought": (program("x", "a", "a a: x >= 0; -x + 2*x' = 0"), ([], [], [0])),
    "without a bound": (program("x", "a", "a a: 1 - x + x' = 0"), ([], [], [0])),
    "up to ten": (program("x", "a", "a a: 10 - x >= 0; 1 + x - x' = 0"), ([], [[0]], [])),
    "stays": (program("x", "a", STAYS), ([], [], [0])),
    "anything at all": (program("x", "a", "a a:"), ([], [], [0])),
    "read below": (program("x", "a", "a a: x >= 0; -1 + x - x' >= 0"), ([], [[0]], [])),
    "chosen": (program("x y", "a", "a a: x >= 0; y >= 0; 1 - x + x' = 0; -y + y' = 0", "a a: x >= 0; y >= 0; -x + x' = 0; 1 - y + y' = 0"),
               ([], [[0, 1]], [])),
    "two ranks": (program("x y", "a", "a a: x >= 0; 1 - x + x' = 0", "a a: x >= 0; y >= 0; -x + x' = 0; 1 - y + y' = 0"),
                  ([], [[0], [1]], [])),
    "two ranks the other way": (program("x y", "a", "a a: x >= 0; y >= 0; -x + x' = 0; 1 - y + y' = 0", "a a: x >= 0; 1 - x + x' = 0"),
                                ([], [[1], [0]], [])),
    "three ranks": (program("x y z", "a", "a a: x >= 0; y >= 0; z >= 0; 1 - x + x' = 0",
                            "a a: x >= 0; y >= 0; z >= 0; -x + x' = 0; 1 - y + y' = 0",
                            "a a: x >= 0; y >= 0; z >= 0; -x + x' = 0; -y + y' = 0; 1 - z + z' = 0"),
                    ([], [[0], [1], [2]], [])),
    "left behind a rank": (program("x y", "a", "a a: x >= 0; 1 - x + x' = 0", "a a: x >= 0; -x + x' = 0"), ([], [[0]], [1])),
    "left behind two ranks": (program("x y", "a b", "a a: x >= 0; 1 - x + x' = 0", "a a: x >= 0; y >= 0; -x + x' = 0; 1 - y + y' = 0",
                                      "b b: -y + y' = 0", NEVER_GOES), ([3], [[0], [1]], [2])),
    "left with rows that go on": (program("x", "a b c", "a b:", "b b: -x + x' = 0", "b c:", "c c: x >= 0; 1 - x + x' >= 0"),
                                  ([], [[0, 2]], [1, 3])),
    "falls and rises in turn": (program("x", "a b", "a b: x >= 0; 2 - x + x' = 0", "b a: x >= 0; 1 + x - x' = 0"), ([], [[0, 1]], [])),
    "rises more than it falls": (program("x", "a b", "a b: x >= 0; 1 - x + x' = 0", "b a: 2 + x - x' = 0; x >= 0"), ([], [], [0, 1])),
    "by three places": (program("x", "a b c", "a b: -1 + x >= 0; -x + x' = 0", "b c: -x + x' = 0; x >= 0", "c a: 1 - x + x' = 0; x >= 0"),
                        ([], [[0, 1, 2]], [])),
    "a sum falls": (program("x y", "a", "a a: x + y >= 0; 1 - x - y + x' + y' = 0"), ([], [[0]], [])),
    "each falls to the other": (program("x y", "a", "a a: x >= 0; y >= 0; -y + x' = 0; 1 - x + y' = 0"), ([], [[0]], [])),
    "ten rows": (program("x y z", "a b c", "a a: x >= 0; 1 - x + x' = 0; -y + y' = 0; -z + z' = 0", "a b: -x + x' = 0; y' >= 0",
                         "b b: y >= 0; 1 - y + y' = 0; -x + x' = 0", "b c: -x + x' = 0", "c c: z >= 0; 1 - z + z' = 0; -x + x' = 0; -y + y' = 0",
                         "c b: x >= 0; 1 - x + x' = 0", NEVER_GOES, "b b: -1 = 0", "a c:", "c c: z >= 0; 5 - z + z' = 0; -x + x' = 0"),
                 ([6, 7], [[1, 8], [0]], [2, 3, 4, 5, 9])),
    "ten rows alike": (program("x", "a", *([COUNT_DOWN] * 10)), ([], [list(range(10))], [])),
    "ten rows left": (program("x", "a", *([STAYS] * 10)), ([], [], list(range(10)))),
    "ten rows round": (program("x", "a b c d e f", *[way + ": x >= 0; -x + x' = 0" for way in ROUND_WAYS], "f a: x >= 0; 1 - x + x' = 0"),
                       ([], [list(range(10))], [])),
    "ten rows round without a bound": (program("x", "a b c d e f", *[way + ": -x + x' = 0" for way in ROUND_WAYS],
                                                    "f a: x >= 0; 1 - x + x' = 0"), ([], [], list(range(10)))),
}


def check_settled(test, one):
    """What settled and sets_of tell of a program; the test fails where it is not as [24] and [25] say."""
    word, never, ranks, mixtures = settled(one)
    many = 2 * len(one[0])
    still = [row for row, (start, to, wishes) in enumerate(one[2]) if granted(many, wishes)[0] == "shares"]
    test.assertEqual([row for row, shares in never], still)
    left = left_by(one, never, [])
    fallen = []
    for at in range(len(ranks) + 1):
        if at < len(ranks):
            fallen.append([row for row, falls, fall, bound in ranks[at][1] if falls])
            test.assertTrue(fallen[-1])
        if at < len(mixtures):
            test.assertTrue(lets_mixture(one, left, mixtures[at]))
            test.assertEqual(barred(mixtures[at]), [row for row in left if at == len(ranks) or row not in fallen[-1]])
        left = left_by(one, never, ranks[:at + 1])
        test.assertIsNotNone(left)
    test.assertEqual(word, "left" if left else "ends")
    test.assertIs(lets_ranks(one, never, ranks), word == "ends")
    test.assertEqual(len(mixtures), len(ranks) + 1 if left else max(0, len(ranks) - 1))
    test.assertEqual(sets_of(one), (still, fallen, left))
    return (word, never, ranks, mixtures)
