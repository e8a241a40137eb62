"""Counts that go on step by step, and what they are far ahead, modulo a prime.

Behind each step an item of the counts is the sum of those items of them that its row names. As soon
as counts are made of those behind fewer steps, each by a factor, all further ones are, too.
"""


def far_first(rows, counts, many, p):
    """The first item of the counts behind so many steps."""
    firsts, factors = going_on(rows, counts, p)
    weights = power_of_step(many, factors, p)
    return sum([weight * first for weight, first in zip(weights, firsts)]) % p


def going_on(rows, counts, p):
    """The pair of the lists of first items behind 0, 1, 2 .. steps, and of the factors for these counts.

    There are as many of both as it takes till the next counts are made of these.
    """
    firsts = []
    made = []
    while True:
        left, weights = reduced(counts, made, p)
        places = [place for place, item in enumerate(left) if item != 0]
        if len(places) == 0:
            return firsts, [-weight for weight in weights[:-1]]
        by = inverse(left[places[0]], p)
        made.append((places[0], times(left, by, p), times(weights, by, p)))
        firsts.append(counts[0])
        counts = [sum([counts[at] for at in row]) % p for row in rows]


def reduced(counts, made, p):
    """The pair (left, weights): what is left of counts, and of which counts, of those so far, it is made.

    Each of made is a triple (place, item of left, weights) such that left is 1 at the place and 0
    at the places of those ahead of it; what is left now is 0 at all of these places.
    """
    left = counts
    weights = [0] * len(made) + [1]
    for place, elder, parts in made:
        by = left[place]
        if by != 0:
            left = [(a - by * b) % p for a, b in zip(left, elder)]
            for at, part in enumerate(parts):
                weights[at] = (weights[at] - by * part) % p
    return left, weights


def times(row, by, p):
    return [item * by % p for item in row]


def inverse(number, p):
    """What gives 1 times the number, modulo the prime p: its power p - 2."""
    found = 1
    for at in reversed(range(p.bit_length())):
        found = found * found % p
        if (p - 2) >> at & 1:
            found = found * number % p
    return found


def power_of_step(many, factors, p):
    """By which weights the counts behind so many steps are made of the first ones.

    A step is the x of polynomials whose power with the number of the factors is made by them.
    """
    found = [1]
    for at in reversed(range(many.bit_length())):
        found = product_of(found, found, factors, p)
        if many >> at & 1:
            found = product_of(found, [0, 1], factors, p)
    return found


def product_of(one, other, factors, p):
    """The product of two polynomials, of no more parts than there are factors."""
    parts = [0] * (len(one) + len(other))
    for at, a in enumerate(one):
        for further, b in enumerate(other):
            parts[at + further] += a * b
    while len(parts) > len(factors):
        great = parts.pop() % p
        for at, factor in enumerate(factors):
            parts[len(parts) - len(factors) + at] += great * factor
    return [part % p for part in parts]
