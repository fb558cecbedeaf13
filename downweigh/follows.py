"""What follows from wishes: numbers that grant them all, shares that carry a line, or what it fails by."""

from downweigh.balance import SHARES, balance
from downweigh.forms import word_of
from downweigh.numbers import lowest, minus, plus, times, whole_part
from downweigh.shares import carries
from downweigh.wishes import JUST, grants, is_numbers, look_at_many, worth

NUMBERS = "numbers"
NONE = "none"
FAILS = "fails"


def minus_one(many):
    """The line over so many numbers that is worth -1 everywhere."""
    return [-1] + [0] * many


def columns_of(many, wishes):
    """Each wish's line, those of `just` also turned about, and at last 1, which makes up for a plain number."""
    columns = []
    for word, line in wishes:
        columns.append(line)
        if word == JUST:
            columns.append([-number for number in line])
    return [*columns, [1] + [0] * many]


def shares_of(wishes, parts):
    """The shares for wishes, of the parts that their columns have."""
    shares = []
    at = 0
    for word, line in wishes:
        if word == JUST:
            shares.append(minus(parts[at], parts[at + 1]))
            at += 2
        else:
            shares.append(parts[at])
            at += 1
    return shares


def numbers_of(wholes):
    """The numbers that whole numbers stand for, the first one being above nought: all others divided by it."""
    return [lowest(number, wholes[0]) for number in wholes[1:]]


def along(numbers, way, laps):
    """Numbers so many times on along a way."""
    return [plus(number, times((laps, 1), part)) for number, part in zip(numbers, way)]


def far_on(line, numbers, way):
    """Numbers so far on from some, along a way on which a line gets less, that its worth is below nought."""
    slope = worth([0, *line[1:]], way)
    high = worth(line, numbers)
    laps = 1 + whole_part(lowest(high[0] * slope[1], -high[1] * slope[0]))
    return along(numbers, way, laps)


def granted_over(many, wishes):
    """Numbers that grant all wishes, or shares that carry what can't be, over however many numbers."""
    word, told = balance(columns_of(many, wishes), minus_one(many))
    if word == SHARES:
        return (SHARES, shares_of(wishes, told))
    return (NUMBERS, numbers_of(told))


def granted(many, wishes):
    """Numbers that grant all wishes, or shares that carry what can't be."""
    look_at_many(many)
    return granted_over(many, wishes)


def follows_where(many, wishes, line, numbers):
    """Shares that carry a line, or numbers by which it fails, where numbers are known that grant the wishes."""
    if worth(line, numbers)[0] < 0:
        return (FAILS, list(numbers))
    word, told = balance(columns_of(many, wishes), line)
    if word == SHARES:
        return (SHARES, shares_of(wishes, told))
    if told[0] > 0:
        return (FAILS, numbers_of(told))
    return (FAILS, far_on(line, numbers, [(number, 1) for number in told[1:]]))


def follows(many, wishes, line):
    """Shares that carry a line, or numbers by which it fails; where none grant the wishes, shares for that."""
    word, told = granted(many, wishes)
    if word == SHARES:
        return (NONE, told)
    return follows_where(many, wishes, line, told)


def lets_granted(many, wishes, thing):
    """Whether anything is one of the two that granted may tell."""
    look_at_many(many)
    word = word_of(thing)
    if word == NUMBERS:
        return is_numbers(many, thing[1]) and grants(wishes, thing[1])
    return word == SHARES and carries(wishes, minus_one(many), thing[1])


def lets_follows(many, wishes, line, thing):
    """Whether anything is one of the three that follows may tell."""
    look_at_many(many)
    word = word_of(thing)
    if word == NONE:
        return carries(wishes, minus_one(many), thing[1])
    if word == SHARES:
        return carries(wishes, line, thing[1])
    if word != FAILS or not is_numbers(many, thing[1]):
        return False
    return grants(wishes, thing[1]) and worth(line, thing[1])[0] < 0
