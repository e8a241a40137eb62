"""Copies of values of any kind, with all lists and dicts within them."""


def copied(thing):
    """The thing with each list and dict within it made anew, also those within tuples.

    Parts are listed behind what holds them, and made anew from the last one on: a value may be
    nested deeper than calls can be.
    """
    parts = [thing]
    ends = []
    while len(ends) < len(parts):
        parts.extend(held_by(parts[len(ends)]))
        ends.append(len(parts))
    for at in reversed(range(len(ends))):
        begin = ends[at - 1] if at > 0 else 1
        parts[at] = holding(parts[at], parts[begin:ends[at]])
    return parts[0]


def held_by(thing):
    """The list of what stands in a list, a tuple or a dict."""
    if type(thing) in (list, tuple):
        return list(thing)
    if type(thing) is dict:
        return list(thing.values())
    return []


def holding(thing, parts):
    """What the thing is with these parts in it."""
    if type(thing) is list:
        return parts
    if type(thing) is tuple:
        return tuple(parts)
    if type(thing) is dict:
        return {key: part for key, part in zip(list(thing), parts)}
    return thing
