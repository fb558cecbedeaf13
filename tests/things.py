"""What the tests share: things of all kinds, for what is promised of anything."""

import copy


class Sour:
    """A thing that can't be compared, counted, shown or gone through."""

    def refuse(self, *told):
        raise AssertionError("this thing must not be asked")

    __eq__ = __ne__ = __lt__ = __le__ = __gt__ = __ge__ = refuse
    __len__ = __iter__ = __getitem__ = __contains__ = __bool__ = refuse
    __hash__ = __repr__ = __str__ = __int__ = __index__ = refuse
    __add__ = __radd__ = __mul__ = __rmul__ = __neg__ = __abs__ = __mod__ = refuse


def deep(kind, levels):
    told = kind()
    for level in range(levels):
        told = kind([told])
    return told


def ring():
    told = []
    told.append(told)
    return told


def odd_things():
    """Things that are no wholes, fractions, lines, wishes, shares, numbers or programs."""
    return [
        None, True, False, 1.0, 0.5, float("nan"), float("inf"), 1j,
        "", "a", "1", "least", "just", "shares", b"", b"1", b"least", bytearray(b"1"),
        (), ((),), [[]], {}, {"least": 1}, {0: 1}, set(), {1}, frozenset(), range(3),
        (1,), (1, 2, 3), (1.0, 1), ("1", "2"), (True, 1), (1, True), (None, None), [None],
        [True], [1.5], [(1, 2), 3], [(2, 4)], [(1, 0)], [(1, -1)], [[1, 1]], ["1"],
        ("least",), ("least", None), ("just", 3), ("most", [0]), ("shares", None), ("against", 5),
        ("numbers", {}), ("none", ()), ("fails", "x"), (["least"], [0]), ({}, []), (b"least", [0]),
        object(), object, int, len, ValueError(3), Sour(), [Sour()], (Sour(), Sour()),
        ("least", Sour()), ("shares", Sour()), ("shares", [Sour()]), ("against", [Sour()]),
        ("numbers", [Sour()]), ("fails", [Sour()]), ("none", [Sour()]),
        deep(list, 30), deep(tuple, 30), ring(), (ring(), ring()), (x for x in ()),
    ]


def kept_as_is(test, call, *arguments, **named):
    """What a call tells; the test fails where it changed what was handed in."""
    ahead = copy.deepcopy((arguments, named))
    told = call(*arguments, **named)
    test.assertEqual((arguments, named), ahead)
    return told


def both_ways(test, call, **named):
    """What a call tells by the names of its arguments, which must be what it tells by their places."""
    told = call(**named)
    test.assertEqual(call(*named.values()), told)
    return told
