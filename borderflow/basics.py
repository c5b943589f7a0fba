"""Small things that several modules need: plain numbers, powers, limits, faults of lists."""

from borderflow.errors import LIMITS, TooMany


def is_whole(value):
    """Whether any value is an integer; True and False are none."""
    return isinstance(value, int) and not isinstance(value, bool)


def power_of(base, exponent):
    """The power of a number, for an exponent from 0."""
    result = 1
    for _ in range(exponent):
        result = result * base
    return result


def check_limit(what, count):
    """Raises TooMany if a count is above the limit of a word."""
    if count > LIMITS[what]:
        raise TooMany(what, count)


def is_listing(value, length):
    """Whether any value is a list or tuple with so many items."""
    return isinstance(value, (list, tuple)) and len(value) == length


def table_fault(value, length, signs):
    """The index of the first item that is no number below signs, -1 for no such list, None for no fault."""
    if not is_listing(value, length):
        return -1
    for at, item in enumerate(value):
        if not is_whole(item) or item < 0 or item >= signs:
            return at
    return None


def order_fault(value, length):
    """As table_fault, for a list that should have each number below its length once."""
    if not is_listing(value, length):
        return -1
    ahead = [False for _ in range(length)]
    for at, item in enumerate(value):
        if not is_whole(item) or item < 0 or item >= length or ahead[item]:
            return at
        ahead[item] = True
    return None


def inverse_order(table):
    """The tuple that leads back from the items of a table, which has each number once, to their indexes."""
    inverse = [0 for _ in table]
    for at, item in enumerate(table):
        inverse[item] = at
    return tuple(inverse)


def cycle_lengths(table):
    """For each cycle of a table that has each number once, its length."""
    lengths = []
    done = [False for _ in table]
    for start in range(len(table)):
        length = 0
        at = start
        while not done[at]:
            done[at] = True
            at = table[at]
            length = length + 1
        if length > 0:
            lengths.append(length)
    return lengths
