"""The one solution of as many equations as unknowns, in whole numbers.

It is found as a remainder by one modulus, then by higher and higher powers of it, until the
fractions can be told of their remainders: so no long numbers are multiplied by one another.
"""

FIRST_MODULUS = (1 << 89) - 1


def turned(number, modulus):
    """What a number must be multiplied by to leave 1 by a modulus; None where nothing does that."""
    high, low = modulus, number % modulus
    before, now = 0, 1
    while low != 0:
        times = high // low
        high, low = low, high - times * low
        before, now = now, before - times * now
    return before % modulus if high == 1 else None


def pivot_below(table, at, modulus):
    """The first row, from a number on, that can be divided by what it has there, and its turned number."""
    for row in range(at, len(table)):
        back = turned(table[row][at], modulus) if table[row][at] != 0 else None
        if back is not None:
            return (row, back)
    return None


def cleared_by(row, by, at, modulus):
    """A row less so much of another one, which has been divided, that it is nought at a place."""
    less = row[at]
    if less == 0:
        return row
    told = [(number - less * other) % modulus for number, other in zip(row, by)]
    # at the place itself the inverse grows in the stead of the square
    told[at] = -less * by[at] % modulus
    return told


def inverse(square, modulus):
    """The inverse of a square by a modulus; None where it has none, or none is found."""
    table = [[number % modulus for number in row] for row in square]
    swaps = []
    for at in range(len(table)):
        found = pivot_below(table, at, modulus)
        if found is None:
            return None
        row, back = found
        swaps.append(row)
        table[at], table[row] = table[row], table[at]
        table[at][at] = 1
        by = [number * back % modulus for number in table[at]]
        table = [by if other == at else cleared_by(table[other], by, at, modulus) for other in range(len(table))]
    for at in reversed(range(len(table))):
        for row in table:
            row[at], row[swaps[at]] = row[swaps[at]], row[at]
    return table


def product(table, numbers):
    """A table times numbers."""
    return [sum([one * other for one, other in zip(row, numbers)]) for row in table]


def ratio_of(remainder, modulus, most):
    """A top of at most so much and a bottom above nought whose quotient leaves a remainder by a modulus."""
    high, low = modulus, remainder
    before, now = 0, 1
    while low > most:
        times = high // low
        high, low = low, high - times * low
        before, now = now, before - times * now
    return (-low, -now) if now < 0 else (low, now)


def nearest(number, modulus):
    """The number next to nought that leaves the same by a modulus."""
    low = number % modulus
    return low - modulus if 2 * low > modulus else low


def ratios_of(remainders, modulus):
    """Tops and their one bottom of remainders by a modulus; None where it is too small for them."""
    most = 1 << (modulus.bit_length() // 2 - 1)
    bottom = 1
    for remainder in remainders:
        if abs(nearest(remainder * bottom, modulus)) > most:
            top, more = ratio_of(remainder * bottom % modulus, modulus, most)
            bottom = bottom * more
        if bottom > most:
            return None
    return ([nearest(remainder * bottom, modulus) for remainder in remainders], bottom)


def lifted(square, right, back, modulus):
    """Tops and their one bottom by which a square comes to what is right, by its inverse by a modulus."""
    rest = right
    sofar = [0 for place in right]
    power = 1
    steps = 0
    while True:
        digits = [number % modulus for number in product(back, rest)]
        rest = [(number - less) // modulus for number, less in zip(rest, product(square, digits))]
        sofar = [number + digit * power for number, digit in zip(sofar, digits)]
        power = power * modulus
        steps += 1
        # fractions are told of remainders only now and then: that takes longer than a step
        if (steps & (steps - 1)) == 0:
            told = ratios_of(sofar, power)
            if told is not None and product(square, told[0]) == [number * told[1] for number in right]:
                return told


def solved(square, right, sure):
    """Tops and their one bottom, above nought, by which a square comes to what is right.

    None where no inverse is found; where the square is sure to have one, another modulus is taken.
    """
    modulus = FIRST_MODULUS
    back = inverse(square, modulus)
    while sure and back is None:
        modulus -= 2
        back = inverse(square, modulus)
    return None if back is None else lifted(square, right, back, modulus)
