"""Journals that are alike: whatever deeds come behind them, both stick or neither does."""

from laidplates.errors import NoNumber, NoPrime
from laidplates.recurrences import far_first
from laidplates.standings import check_few_cells, explored
from laidplates.tables import check_journal
from laidplates.things import is_integer, is_number_below

MOST_FAR = 10 ** 30
MOST_PRIME = 10 ** 6


def partings(nexts, stuck):
    """The list whose item with the number n numbers the standings as far as at most n further deeds tell.

    Two have one number just if no row of so few deeds leads one of them to stick, and one not; the
    numbers go up by the first standing of each. Behind the last item more deeds tell no more.
    """
    levels = [numbered([(flag,) for flag in stuck])]
    while True:
        level = levels[-1]
        finer = numbered([(level[at], tuple([level[then] for then in row])) for at, row in enumerate(nexts)])
        if max(finer) == max(level):
            return levels
        levels.append(finer)


def numbered(things):
    """The number of each thing among the unlike ones, in the order in which they come first."""
    numbers = {}
    for thing in things:
        numbers.setdefault(thing, len(numbers))
    return [numbers[thing] for thing in things]


def standing_behind(nexts, journal):
    """The number of the standing of a journal."""
    at = 0
    for kind in journal:
        at = nexts[at][kind]
    return at


def alike(table, one, other):
    return telling(table, one, other) is None


def telling(table, one, other):
    """The first row of further deeds, fewest first, behind which just one of both journals sticks; or None."""
    check_few_cells(table)
    check_journal(table, one)
    check_journal(table, other)
    _, nexts, stuck = explored(table)
    levels = partings(nexts, stuck)
    a, b = standing_behind(nexts, one), standing_behind(nexts, other)
    if levels[-1][a] == levels[-1][b]:
        return None
    left = [numbers[a] == numbers[b] for numbers in levels].index(False)
    row = ()
    while len(row) < left:
        level = levels[left - len(row) - 1]
        kind = [level[x] == level[y] for x, y in zip(nexts[a], nexts[b])].index(False)
        row = (*row, kind)
        a, b = nexts[a][kind], nexts[b][kind]
    return row


def classes(table):
    """Into how many lots all journals fall."""
    return len(first_of_classes(table))


def first_of_classes(table):
    """The list of the first journal of each lot."""
    check_few_cells(table)
    journals, nexts, stuck = explored(table)
    level = partings(nexts, stuck)[-1]
    return [journals[level.index(number)] for number in range(max(level) + 1)]


def count_far(table, many, p):
    """How many journals of just so many deeds stick, modulo a prime p.

    What is counted step by step is how many rows of so many deeds lead each standing to stick.
    """
    check_few_cells(table)
    if not is_number_below(MOST_FAR + 1, many):
        raise NoNumber()
    if not is_prime(p):
        raise NoPrime()
    _, nexts, stuck = explored(table)
    return far_first(nexts, [1 if flag else 0 for flag in stuck], many, p)


def is_prime(thing):
    """Whether the thing is a prime that is let."""
    if not is_integer(thing) or not 2 <= thing <= MOST_PRIME:
        return False
    divisor = 2
    while divisor * divisor <= thing:
        if thing % divisor == 0:
            return False
        divisor += 1
    return True
