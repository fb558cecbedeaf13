"""Codes by dice, and codes gone part by part over a few numbers."""

import itertools

from downweigh.numbers import fraction
from downweigh.wishes import grants, worth
from tests.things import some_line, some_wishes


def some_code(dice, many, deep=4, most=3):
    """Any code over so many numbers, at most so deep."""
    return [some_part(dice, many, deep - 1, most) for part in range(dice.randint(0, most))]


def some_part(dice, many, deep, most):
    kinds = ["put", "read", "want"] + (["either", "round"] if deep > 0 else [])
    kind = dice.choice(kinds)
    if kind == "put":
        return ("put", dice.randrange(many), some_line(dice, many, 2))
    if kind == "read":
        return ("read", dice.randrange(many))
    if kind == "want":
        return ("want", some_wishes(dice, many, 4, 2))
    if kind == "either":
        return ("either", [some_code(dice, many, deep, 2) for code in range(dice.randint(2, 4))])
    return ("round", some_wishes(dice, many, 4, 2), some_code(dice, many, deep, 2))


class Ways:
    """Which numbers of a few a code, or a program from its first place to its second one, leads from and to."""

    def __init__(self, many, low, high):
        self.all = [list(numbers) for numbers in itertools.product([fraction(x) for x in range(low, high + 1)], repeat=many)]
        self.keys = [tuple(numbers) for numbers in self.all]

    def code(self, code):
        pairs = {(key, key) for key in self.keys}
        for part in code:
            after = self.part(part)
            pairs = {(one, last) for one, middle in pairs for first, last in after if middle == first}
        return pairs

    def part(self, part):
        if part[0] == "put":
            told = set()
            for numbers in self.all:
                behind = tuple(worth(part[2], numbers) if at == part[1] else x for at, x in enumerate(numbers))
                if behind in self.keys:
                    told.add((tuple(numbers), behind))
            return told
        if part[0] == "read":
            return {(one, other) for one in self.keys for other in self.keys
                    if all(one[at] == other[at] for at in range(len(one)) if at != part[1])}
        if part[0] == "want":
            return {(key, key) for key in self.keys if grants(part[1], list(key))}
        if part[0] == "either":
            return set().union(*[self.code(code) for code in part[1]])
        lap = {(one, other) for one, other in self.code(part[2]) if grants(part[1], list(one))}
        return self.again_and_again(lap)

    def again_and_again(self, lap):
        told = {(key, key) for key in self.keys}
        new = told
        while new:
            new = {(one, last) for one, middle in new for first, last in lap if middle == first} - told
            told = told | new
        return told

    def program(self, program):
        steps = set()
        for start, to, wishes in program[2]:
            steps |= {((start, *one), (to, *other)) for one in self.keys for other in self.keys if grants(wishes, [*one, *other])}
        leads = {}
        for one, other in steps:
            leads.setdefault(one, []).append(other)
        told = set()
        for key in self.keys:
            seen, waiting = {(0, *key)}, [(0, *key)]
            while waiting:
                for other in leads.get(waiting.pop(), []):
                    if other not in seen:
                        seen.add(other)
                        waiting.append(other)
            told |= {(key, state[1:]) for state in seen if state[0] == 1}
        return told


# one code of each kind and form, over two numbers, with its text
CODES = {
    "": [],
    "put x = 3 - 2*x + y": [("put", 0, [3, -2, 1])],
    "put y = 0": [("put", 1, [0, 0, 0])],
    "read y": [("read", 1)],
    "want": [("want", [])],
    "want x >= 0": [("want", [("least", [0, 1, 0])])],
    "want x >= 0 ; 1 - y = 0 ; 0 >= 0 ; -5 = 0":
        [("want", [("least", [0, 1, 0]), ("just", [1, 0, -1]), ("least", [0, 0, 0]), ("just", [-5, 0, 0])])],
    "either\nor\nend": [("either", [[], []])],
    "either\nread x\nor\nor\nread y\nread x\nor\nend": [("either", [[("read", 0)], [], [("read", 1), ("read", 0)], []])],
    "round\nend": [("round", [], [])],
    "round x >= 0 ; y = 0\nend\nread x": [("round", [("least", [0, 1, 0]), ("just", [0, 0, 1])], []), ("read", 0)],
    "round x >= 0\nput x = -1 + x\nround y >= 0\nput y = -1 + y\nend\nend":
        [("round", [("least", [0, 1, 0])], [("put", 0, [-1, 1, 0]), ("round", [("least", [0, 0, 1])], [("put", 1, [-1, 0, 1])])])],
    "round\neither\nround\nor\nend\nend".replace("round\nor", "round\nend\nor"): [("round", [], [("either", [[("round", [], [])], []])])],
}
