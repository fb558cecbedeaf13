"""Bounds: the most steps that a run has from a state, by one rank."""

from downweigh.errors import NoRanks
from downweigh.numbers import whole_part
from downweigh.programs import look_at_place
from downweigh.ranks import lets_ranks
from downweigh.walks import look_at_numbers
from downweigh.weighings import weighs


def most_steps(program, never, ranks, *, place=0, numbers):
    """The most steps of a run from a state, where there is one rank or none; None where there are more."""
    if not lets_ranks(program, never, ranks):
        raise NoRanks("these are no ranks that leave no row")
    look_at_place(program, place)
    look_at_numbers(program, numbers)
    if len(ranks) == 0:
        return 0
    if len(ranks) > 1:
        return None
    weighing, entries = ranks[0]
    return max(0, 1 + whole_part(weighs(weighing, place, numbers)))
