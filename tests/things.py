"""What the tests share: things of all kinds, for what is promised of anything."""

import copy

from downweigh import errors
from downweigh.follows import follows
from downweigh.numbers import fraction


class Sour:
    """A thing that can't be compared, counted, shown or gone through."""

    def refuse(self, *told):
        raise AssertionError("this thing must not be asked")

    __eq__ = __ne__ = __lt__ = __le__ = __gt__ = __ge__ = refuse
    __len__ = __iter__ = __getitem__ = __contains__ = __bool__ = refuse
    __hash__ = __repr__ = __str__ = __int__ = __index__ = refuse
    __add__ = __radd__ = __mul__ = __rmul__ = __neg__ = __abs__ = __mod__ = refuse


def deep(kind, levels):
    told = kind()
    for level in range(levels):
        told = kind([told])
    return told


def ring():
    told = []
    told.append(told)
    return told


def odd_things():
    """Things that are no wholes, fractions, lines, wishes, shares, numbers or programs."""
    return [
        None, True, False, 1.0, 0.5, float("nan"), float("inf"), 1j,
        "", "a", "1", "least", "just", "shares", b"", b"1", b"least", bytearray(b"1"),
        (), ((),), [[]], {}, {"least": 1}, {0: 1}, set(), {1}, frozenset(), range(3),
        (1,), (1, 2, 3), (1.0, 1), ("1", "2"), (True, 1), (1, True), (None, None), [None],
        [True], [1.5], [(1, 2), 3], [(2, 4)], [(1, 0)], [(1, -1)], [[1, 1]], ["1"],
        ("least",), ("least", None), ("just", 3), ("most", [0]), ("shares", None), ("against", 5),
        ("numbers", {}), ("none", ()), ("fails", "x"), (["least"], [0]), ({}, []), (b"least", [0]),
        object(), object, int, len, ValueError(3), Sour(), [Sour()], (Sour(), Sour()),
        ("least", Sour()), ("shares", Sour()), ("shares", [Sour()]), ("against", [Sour()]),
        ("numbers", [Sour()]), ("fails", [Sour()]), ("none", [Sour()]),
        deep(list, 30), deep(tuple, 30), ring(), (ring(), ring()), (x for x in ()),
    ]


def kept_as_is(test, call, *arguments, **named):
    """What a call tells; the test fails where it changed what was handed in."""
    ahead = copy.deepcopy((arguments, named))
    told = call(*arguments, **named)
    test.assertEqual((arguments, named), ahead)
    return told


def both_ways(test, call, **named):
    """What a call tells by the names of its arguments, which must be what it tells by their places."""
    told = call(**named)
    test.assertEqual(call(*named.values()), told)
    return told


def lists_in(thing):
    """All lists within a told thing, itself with them."""
    told = [thing] if isinstance(thing, list) else []
    if isinstance(thing, (list, tuple)):
        for part in thing:
            told.extend(lists_in(part))
    return told


def all_own(test, told, *handed_in):
    """The test fails where two lists within what is told are one, or one is a list that was handed in."""
    own = [id(part) for part in lists_in(told)]
    test.assertEqual(len(own), len(set(own)))
    test.assertEqual(set(own) & {id(part) for part in lists_in(handed_in)}, set())


def spoil(thing):
    """Changes all lists within what was told or handed in."""
    for part in lists_in(thing):
        part.append("spoilt")
        part.reverse()


def refused(test, kind, call, *arguments, **named):
    """The refusal of a call, of just this kind."""
    with test.assertRaises(kind) as caught:
        call(*arguments, **named)
    test.assertIs(type(caught.exception), kind)
    return caught.exception


# wishes over one number ahead and one behind
DOWN = ("just", [1, -1, 1])
STAYS = ("just", [0, -1, 1])
FROM_ONE = ("least", [-1, 1, 0])
LOOP = (["x"], ["a"], [(0, 0, [FROM_ONE, DOWN])])


def no_programs():
    """Things that are no programs, with the fields of the refusal."""
    return [
        (None, None, None), ("program", None, None), (list(LOOP), None, None), (LOOP[:2], None, None),
        (([], ["a"], []), "names", None), ((["x", "x"], ["a"], []), "names", 1), ((["x"], [], []), "places", None),
        ((["x"], ["a", "A"], []), "places", 1), ((["x"], ["a"], None), "rows", None),
        ((["x"], ["a"], [(0, 0, []), (0, 1, [])]), "rows", 1), ((["x"], ["a"], [(0, 0, [])] * 11), "rows", None),
        ((["x"], ["a"], [(0, 0, [DOWN] * 13)]), "rows", 0), ((["x"], ["a"], [(0, True, [])]), "rows", 0),
        (Sour(), None, None), ((Sour(), Sour(), Sour()), "names", None),
    ]


def takes_programs_alone(test, call):
    """The test fails where a call of one argument doesn't refuse what is no program by its fields."""
    for thing, part, number in no_programs():
        told = refused(test, errors.NoProgram, call, thing)
        test.assertEqual((told.part, told.number), (part, number))


def some_line(dice, many, size=3):
    return [dice.randint(-size, size) if dice.random() < 0.6 else 0 for place in range(many + 1)]


def some_wishes(dice, many, most, size=3):
    return [(dice.choice(("least", "least", "just")), some_line(dice, many, size)) for wish in range(dice.randint(0, most))]


def some_program(dice, most_rows=10, most_wishes=4, size=3):
    """Any program, by dice."""
    names = ["x", "y", "zz"][:dice.randint(1, 3)]
    places = ["a", "b", "x", "dd", "e", "abcdef"][:dice.randint(1, 6)]
    rows = []
    for row in range(dice.randint(0, most_rows)):
        start, to = dice.randrange(len(places)), dice.randrange(len(places))
        rows.append((start, to, some_wishes(dice, 2 * len(names), most_wishes, size)))
    return (names, places, rows)


def some_numbers(dice, many, size=4):
    return [fraction(dice.randint(-size, size), dice.randint(1, 3)) for number in range(many)]


def some_offer(dice, program, most=3):
    many = len(program[0])
    return [[("least", some_line(dice, many, 2)) for wish in range(dice.randint(0, most))] for place in program[1]]


def papers_by_follows(program, start, offered, part):
    """Papers for a part as what follows tells them; None where it is not kept."""
    many = len(program[0])

    def paper(over, wishes, lines):
        told = [follows(over, wishes, line) for line in lines]
        if any(word == "fails" for word, shares in told):
            return None
        if told and told[0][0] == "none":
            return told[0]
        return ("shares", [shares for word, shares in told])

    begin = paper(many, start[1], [offered[start[0]][number][1] for number in part[start[0]]])
    steps = []
    for from_place, to, wishes in program[2]:
        ahead = [("least", offered[from_place][number][1] + [0] * many) for number in part[from_place]]
        behind = [offered[to][number][1] for number in part[to]]
        steps.append(paper(2 * many, wishes + ahead, [[line[0]] + [0] * many + line[1:] for line in behind]))
    return None if begin is None or None in steps else (begin, steps)


def bent(thing):
    """All things that come of a thing by another thing at one place within it."""
    for other in (None, True, Sour(), 1, (3, 7), (2, 4), (-1, 1), [], (), "none"):
        yield other
    if isinstance(thing, (list, tuple)):
        kind = type(thing)
        yield list(thing) if kind is tuple else tuple(thing)
        for at in range(len(thing)):
            yield kind([*thing[:at], *thing[at + 1:]])
            yield kind([*thing[:at], thing[at], thing[at], *thing[at + 1:]])
            for part in bent(thing[at]):
                yield kind([*thing[:at], part, *thing[at + 1:]])


def odd_starts():
    """Things that are no starts of a program with one number and two places."""
    wish = ("least", [0, 1])
    return [*odd_things(), [0, []], (0,), (0, [], []), (2, []), (-1, []), (True, []), (False, []), ("a", []), (None, []),
            (0, None), (0, ()), (0, [wish] * 13), (0, [("least", [0, 1, 0])]), (0, [("least", [0])]), (0, [("most", [0, 1])]),
            (0, [["least", [0, 1]]]), (0, wish), (0, [wish, Sour()]), (Sour(), []), (0, Sour()), (0, [("least", [0, True])])]


def odd_lists():
    """Things that are no lists of lists of wishes, for one number and two places."""
    wish = ("least", [0, 1])
    return [*odd_things(), [[]], [[], [], []], ([], []), [(), ()], [None, []], [[], None], [wish, wish], [[wish], wish],
            [[("least", [0, 1, 2])], []], [[("least", [0])], []], [[], [("most", [0, 1])]], [[], [["least", [0, 1]]]],
            [[wish, None], []], [[], Sour()], [Sour(), []], [[Sour()], []], [[("just", [0, 1.0])], []], [[("just", (0, 1))], []],
            {0: [], 1: []}, "ab", [[], [("just", [False, 1])]]]


def odd_offers():
    wish = ("least", [0, 1])
    return [*odd_lists(), [[wish] * 7, []], [[], [wish] * 7], [[("just", [0, 1])], []], [[], [wish, ("just", [0, 1])]]]
