"""What the tests share: things of all kinds, for what is promised of anything."""

import copy

from downweigh import errors
from downweigh.numbers import fraction


class Sour:
    """A thing that can't be compared, counted, shown or gone through."""

    def refuse(self, *told):
        raise AssertionError("this thing must not be asked")

    __eq__ = __ne__ = __lt__ = __le__ = __gt__ = __ge__ = refuse
    __len__ = __iter__ = __getitem__ = __contains__ = __bool__ = refuse
    __hash__ = __repr__ = __str__ = __int__ = __index__ = refuse
    __add__ = __radd__ = __mul__ = __rmul__ = __neg__ = __abs__ = __mod__ = refuse


def deep(kind, levels):
    told = kind()
    for level in range(levels):
        told = kind([told])
    return told


def ring():
    told = []
    told.append(told)
    return told


def odd_things():
    """Things that are no wholes, fractions, lines, wishes, shares, numbers or programs."""
    return [
        None, True, False, 1.0, 0.5, float("nan"), float("inf"), 1j,
        "", "a", "1", "least", "just", "shares", b"", b"1", b"least", bytearray(b"1"),
        (), ((),), [[]], {}, {"least": 1}, {0: 1}, set(), {1}, frozenset(), range(3),
        (1,), (1, 2, 3), (1.0, 1), ("1", "2"), (True, 1), (1, True), (None, None), [None],
        [True], [1.5], [(1, 2), 3], [(2, 4)], [(1, 0)], [(1, -1)], [[1, 1]], ["1"],
        ("least",), ("least", None), ("just", 3), ("most", [0]), ("shares", None), ("against", 5),
        ("numbers", {}), ("none", ()), ("fails", "x"), (["least"], [0]), ({}, []), (b"least", [0]),
        object(), object, int, len, ValueError(3), Sour(), [Sour()], (Sour(), Sour()),
        ("least", Sour()), ("shares", Sour()), ("shares", [Sour()]), ("against", [Sour()]),
        ("numbers", [Sour()]), ("fails", [Sour()]), ("none", [Sour()]),
        deep(list, 30), deep(tuple, 30), ring(), (ring(), ring()), (x for x in ()),
    ]


def kept_as_is(test, call, *arguments, **named):
    """What a call tells; the test fails where it changed what was handed in."""
    ahead = copy.deepcopy((arguments, named))
    told = call(*arguments, **named)
    test.assertEqual((arguments, named), ahead)
    return told


def both_ways(test, call, **named):
    """What a call tells by the names of its arguments, which must be what it tells by their places."""
    told = call(**named)
    test.assertEqual(call(*named.values()), told)
    return told


def lists_in(thing):
    """All lists within a told thing, itself with them."""
    told = [thing] if isinstance(thing, list) else []
    if isinstance(thing, (list, tuple)):
        for part in thing:
            told.extend(lists_in(part))
    return told


def all_own(test, told, *handed_in):
    """The test fails where two lists within what is told are one, or one is a list that was handed in."""
    own = [id(part) for part in lists_in(told)]
    test.assertEqual(len(own), len(set(own)))
    test.assertEqual(set(own) & {id(part) for part in lists_in(handed_in)}, set())


def spoil(thing):
    """Changes all lists within what was told or handed in."""
    for part in lists_in(thing):
        part.append("spoilt")
        part.reverse()


def refused(test, kind, call, *arguments, **named):
    """The refusal of a call, of just this kind."""
    with test.assertRaises(kind) as caught:
        call(*arguments, **named)
    test.assertIs(type(caught.exception), kind)
    return caught.exception


# wishes over one number ahead and one behind
DOWN = ("just", [1, -1, 1])
STAYS = ("just", [0, -1, 1])
FROM_ONE = ("least", [-1, 1, 0])
LOOP = (["x"], ["a"], [(0, 0, [FROM_ONE, DOWN])])


def no_programs():
    """Things that are no programs, with the fields of the refusal."""
    return [
        (None, None, None), ("program", None, None), (list(LOOP), None, None), (LOOP[:2], None, None),
        (([], ["a"], []), "names", None), ((["x", "x"], ["a"], []), "names", 1), ((["x"], [], []), "places", None),
        ((["x"], ["a", "A"], []), "places", 1), ((["x"], ["a"], None), "rows", None),
        ((["x"], ["a"], [(0, 0, []), (0, 1, [])]), "rows", 1), ((["x"], ["a"], [(0, 0, [])] * 11), "rows", None),
        ((["x"], ["a"], [(0, 0, [DOWN] * 13)]), "rows", 0), ((["x"], ["a"], [(0, True, [])]), "rows", 0),
        (Sour(), None, None), ((Sour(), Sour(), Sour()), "names", None),
    ]


def takes_programs_alone(test, call):
    """The test fails where a call of one argument doesn't refuse what is no program by its fields."""
    for thing, part, number in no_programs():
        told = refused(test, errors.NoProgram, call, thing)
        test.assertEqual((told.part, told.number), (part, number))


def some_line(dice, many, size=3):
    return [dice.randint(-size, size) if dice.random() < 0.6 else 0 for place in range(many + 1)]


def some_wishes(dice, many, most, size=3):
    return [(dice.choice(("least", "least", "just")), some_line(dice, many, size)) for wish in range(dice.randint(0, most))]


def some_program(dice, most_rows=10, most_wishes=4, size=3):
    """Any program, by dice."""
    names = ["x", "y", "zz"][:dice.randint(1, 3)]
    places = ["a", "b", "x", "dd", "e", "abcdef"][:dice.randint(1, 6)]
    rows = []
    for row in range(dice.randint(0, most_rows)):
        start, to = dice.randrange(len(places)), dice.randrange(len(places))
        rows.append((start, to, some_wishes(dice, 2 * len(names), most_wishes, size)))
    return (names, places, rows)


def some_numbers(dice, many, size=4):
    return [fraction(dice.randint(-size, size), dice.randint(1, 3)) for number in range(many)]
