"""Balance: shares of columns that come together to a goal, or numbers against it."""

from downweigh.forms import word_of
from downweigh.lifting import product, solved
from downweigh.numbers import NOUGHT, common, is_fraction, is_whole, lowest
from downweigh.tables import searched, shared_by

# guesses with rounded numbers come first: on a large table of long numbers exact steps take hours
ROUGH_BITS = (192, 1536)
# a guess that takes more steps than that, for each column and place, is given up
STEPS_EACH = 5

SHARES = "shares"
AGAINST = "against"


def unit(size, at):
    """The column that is 1 at one place alone."""
    return [1 if place == at else 0 for place in range(size)]


def picked(columns, goal, chosen):
    """The columns chosen in the rows; where none is, one that is 1 there alone."""
    return [unit(len(goal), at) if number is None else columns[number] for at, number in enumerate(chosen)]


def shares_by(columns, goal, chosen, sure):
    """The shares by which the chosen columns come to the goal; None where one would be below nought."""
    columns_picked = picked(columns, goal, chosen)
    square = [[column[at] for column in columns_picked] for at in range(len(goal))]
    told = solved(square, goal, sure)
    if told is None:
        return None
    tops, bottom = told
    if not all([top == 0 or (top > 0 and number is not None) for top, number in zip(tops, chosen)]):
        return None
    shares = [NOUGHT for column in columns]
    for top, number in zip(tops, chosen):
        if number is not None:
            shares[number] = lowest(top, bottom)
    return (SHARES, shares)


def is_against(columns, goal, numbers):
    """Whether numbers are against a goal."""
    return product([goal], numbers)[0] < 0 and all([told >= 0 for told in product(columns, numbers)])


def against_by(columns, goal, chosen, at, sure):
    """The numbers by which all chosen columns but that of a row come to nought; None where they aren't against."""
    told = solved(picked(columns, goal, chosen), unit(len(goal), at), sure)
    if told is None:
        return None
    shared = shared_by(told[0])
    if product([goal], told[0])[0] > 0:
        shared = -shared
    numbers = [number // shared for number in told[0]]
    return (AGAINST, numbers) if is_against(columns, goal, numbers) else None


def tried(columns, goal, bits, most):
    """One of the two, as it is found with numbers of so many bits; None where it is not found so."""
    found = searched(columns, goal, bits, most)
    if found is None:
        return None
    chosen, at = found
    if at is None:
        return shares_by(columns, goal, chosen, bits is None)
    return against_by(columns, goal, chosen, at, bits is None)


def balance(columns, goal):
    """Shares of columns that come together to a goal, or numbers against it."""
    most = STEPS_EACH * (len(columns) + len(goal))
    for bits in ROUGH_BITS:
        told = tried(columns, goal, bits, most)
        if told is not None:
            return told
    return tried(columns, goal, None, None)


def over_one_bottom(shares):
    """The tops of fractions and their bottom, when they are all put over the same one."""
    bottom = 1
    for share in shares:
        bottom = bottom * (share[1] // common(bottom, share[1]))
    return ([top * (bottom // part) for top, part in shares], bottom)


def is_shares_to(columns, goal, thing):
    """Whether anything is shares by which columns come together to a goal."""
    if not isinstance(thing, list) or len(thing) != len(columns):
        return False
    if not all([is_fraction(share) and share[0] >= 0 for share in thing]):
        return False
    tops, bottom = over_one_bottom(thing)
    lines = [[column[at] for column in columns] for at in range(len(goal))]
    return product(lines, tops) == [number * bottom for number in goal]


def lets_balance(columns, goal, thing):
    """Whether anything is one of the two that balance may tell."""
    word = word_of(thing)
    if word == SHARES:
        return is_shares_to(columns, goal, thing[1])
    if word != AGAINST or not isinstance(thing[1], list) or len(thing[1]) != len(goal):
        return False
    return all([is_whole(number) for number in thing[1]]) and is_against(columns, goal, thing[1])
