"""Lost wishes: the offered ones that no kept part has, with how each fails; so the greatest kept part."""

from downweigh.balance import SHARES
from downweigh.follows import FAILS, NONE, follows_where, granted
from downweigh.forms import is_one_of
from downweigh.kept import asked_at_row, asked_at_start
from downweigh.offers import look_at_offered, look_at_start, wishes_at
from downweigh.programs import look_at
from downweigh.sides import line_behind, wishes_ahead
from downweigh.wishes import grants, is_numbers, worth


def all_of(offered):
    """The part that has all that is offered."""
    return [list(range(len(wishes))) for wishes in offered]


def is_lost_at_start(start, wish, many, numbers):
    """Whether anything is numbers that grant the start's wishes and not a wish."""
    place, wishes = start
    return is_numbers(many, numbers) and grants(wishes, numbers) and not grants([wish], numbers)


def is_lost_at_row(row, ahead, wish, many, numbers):
    """Whether anything is numbers ahead and behind that grant a row's wishes and those ahead, and not a wish behind."""
    start, to, wishes = row
    if not is_numbers(2 * many, numbers) or not grants(wishes + wishes_ahead(ahead), numbers):
        return False
    return worth(line_behind(wish[1]), numbers)[0] < 0


def is_lost(program, start, offered, part, thing):
    """Whether anything is an offered wish that is lost next, where those of a part aren't lost up to there."""
    names, places, rows = program
    if not isinstance(thing, tuple) or len(thing) != 4:
        return False
    place, number, row, numbers = thing
    if not is_one_of(len(places), place) or not is_one_of(len(offered[place]), number) or number not in part[place]:
        return False
    wish = offered[place][number]
    if row is None:
        return place == start[0] and is_lost_at_start(start, wish, len(names), numbers)
    if not is_one_of(len(rows), row) or rows[row][1] != place:
        return False
    return is_lost_at_row(rows[row], wishes_at(offered, part, rows[row][0]), wish, len(names), numbers)


def lets_lost(program, start, offered, thing):
    """Whether anything is a list of lost wishes."""
    look_at(program)
    look_at_start(program, start)
    look_at_offered(program, offered)
    if not isinstance(thing, list):
        return False
    part = all_of(offered)
    for one in thing:
        if not is_lost(program, start, offered, part, one):
            return False
        part[one[0]].remove(one[1])
    return True


def paper_for(many, asked):
    """A paper by which each line that is asked follows, where each does."""
    wishes, lines = asked
    word, told = granted(many, wishes)
    if word == SHARES:
        return (NONE, told)
    return (SHARES, [follows_where(many, wishes, line, told)[1] for line in lines])


def failing(many, asked):
    """Which of the lines that are asked don't follow, each with numbers by which it fails."""
    wishes, lines = asked
    word, told = granted(many, wishes)
    if word == SHARES:
        return []
    answers = [follows_where(many, wishes, line, told) for line in lines]
    return [(at, numbers) for at, (answer, numbers) in enumerate(answers) if answer == FAILS]


def without(part, place, lost):
    """The part without those that are lost at a place, told by where they stand in it."""
    gone = [at for at, numbers in lost]
    left = [number for at, number in enumerate(part[place]) if at not in gone]
    return part[:place] + [left] + part[place + 1:]


def losses(program, start, offered):
    """The greatest kept part, and all other offered wishes in the order in which they are lost."""
    names, places, rows = program
    part = all_of(offered)
    found = failing(len(names), asked_at_start(start, offered, part))
    lost = [(start[0], part[start[0]][at], None, numbers) for at, numbers in found]
    part = without(part, start[0], found)
    waiting = list(range(len(rows)))
    while waiting != []:
        number = waiting.pop(0)
        to = rows[number][1]
        found = failing(2 * len(names), asked_at_row(rows[number], offered, part))
        lost.extend([(to, part[to][at], number, numbers) for at, numbers in found])
        part = without(part, to, found)
        # what followed ahead of a loss may have followed from what is lost
        if found != []:
            again = [other for other in range(len(rows)) if rows[other][0] == to and other not in waiting]
            waiting = waiting + again
    return (part, lost)


def greatest(program, start, *, offered):
    """The greatest kept part of what is offered, papers for it, and how all others are lost."""
    look_at(program)
    look_at_start(program, start)
    look_at_offered(program, offered)
    many = len(program[0])
    part, lost = losses(program, start, offered)
    begin = paper_for(many, asked_at_start(start, offered, part))
    steps = [paper_for(2 * many, asked_at_row(row, offered, part)) for row in program[2]]
    return (part, (begin, steps), lost)
