"""What the package asks of any object whatever: integers, lots, cells, bits.

A flag is an int to Python, and equal to one; so things are asked for their kind
ahead of each comparison.
"""


def is_integer(thing):
    return isinstance(thing, int) and not isinstance(thing, bool)


def is_number_below(end, thing):
    return is_integer(thing) and 0 <= thing < end


def is_lot(thing):
    """Whether the thing is an ascending tuple of integers."""
    if not isinstance(thing, tuple):
        return False
    for at, number in enumerate(thing):
        if not is_integer(number):
            return False
        if at > 0 and number <= thing[at - 1]:
            return False
    return True


def is_lot_of_cells(cells, thing):
    """Whether the thing is a lot of cells of a table of so many cells."""
    if not is_lot(thing):
        return False
    return len(thing) == 0 or (thing[0] >= 0 and thing[-1] < cells)


def is_bits(many, thing):
    """Whether the thing is a tuple of just so many bits."""
    if not isinstance(thing, tuple) or len(thing) != many:
        return False
    for bit in thing:
        if not is_number_below(2, bit):
            return False
    return True


def is_step(word, end, thing):
    """Whether the thing is a pair of this word and of an integer from 0 on, below the end."""
    if not isinstance(thing, tuple) or len(thing) != 2:
        return False
    return is_word(word, thing[0]) and is_number_below(end, thing[1])


def is_name(thing):
    """Whether the thing is a string of 1 to 8 letters a to z."""
    if not isinstance(thing, str) or not 1 <= len(thing) <= 8:
        return False
    return all(["a" <= sign <= "z" for sign in thing])


def is_word(word, thing):
    return isinstance(thing, str) and thing == word
