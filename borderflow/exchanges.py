"""Exchanges: permutations of the words of a stretch of a ground, done once."""

from math import lcm

from borderflow.basics import check_limit, cycle_lengths, inverse_order, order_fault
from borderflow.errors import InvalidNumber, InvalidTable, NotAllowed, UnlikeGrounds
from borderflow.grounds import cell_signs, index_on, word_on
from borderflow.words import is_number

FARTHEST = 9999
MOST_TIMES = 400


class Exchange:
    """An exchange, told in its least form."""

    def __init__(self, ground, start, end, table):
        if not is_number(start, -FARTHEST, FARTHEST):
            raise InvalidNumber(start)
        if not is_number(end, start, FARTHEST):
            raise InvalidNumber(end)
        count = ground.word_count(start, end)
        check_limit("words", count)
        fault = order_fault(table, count)
        if fault is not None:
            raise InvalidTable(fault)
        form = least_exchange(ground, start, end, table)
        self.ground = ground
        self.start = form[0]
        self.end = form[1]
        self.core = form[2]
        self.table = form[3]

    def applied(self, row):
        """The row behind the exchange."""
        word = row.word(self.start, self.end)
        for at, signs in enumerate(cell_signs(self.ground, self.start, self.end)):
            if word[at] >= signs:
                raise NotAllowed(word[at], self.start + at)
        new = self.table[index_on(self.ground, self.start, word)]
        return row.changed(self.start, word_on(self.ground, self.start, self.end, new))

    def __add__(self, other):
        if not isinstance(other, Exchange):
            return NotImplemented
        check_grounds(self, other)
        if self.is_empty():
            return other
        if other.is_empty():
            return self
        start, end = hull_of(self, other)
        check_limit("words", self.ground.word_count(start, end))
        behind = widened(other, start, end)
        table = [behind[index] for index in widened(self, start, end)]
        return made_exchange(self.ground, start, end, table)

    def __invert__(self):
        return made_exchange(self.ground, self.start, self.end, inverse_order(self.table))

    def raised(self, k):
        """The exchange done k times."""
        if not is_number(k, 0, MOST_TIMES):
            raise InvalidNumber(k)
        table = list(range(len(self.table)))
        for _ in range(k):
            table = [self.table[index] for index in table]
        return made_exchange(self.ground, self.start, self.end, table)

    def __pow__(self, other):
        return self.raised(other)

    def order(self):
        """The least number of times, from 1, after which the exchange has changed nothing."""
        result = 1
        for length in cycle_lengths(self.table):
            result = lcm(result, length)
        return result

    def is_empty(self):
        """Whether the exchange changes nothing."""
        return self.start == self.end

    def __eq__(self, other):
        if not isinstance(other, Exchange):
            return NotImplemented
        if self.start != other.start or self.table != other.table:
            return False
        return self.end == other.end and self.ground == other.ground

    def __repr__(self):
        return f"Exchange({self.start} to {self.end})"


def made_exchange(ground, start, end, table):
    """An exchange that was worked out, whose stretch may lie beyond the bounds of what is passed."""
    form = least_exchange(ground, start, end, table)
    exchange = Exchange(ground, 0, 0, (0,))
    exchange.start = form[0]
    exchange.end = form[1]
    exchange.core = form[2]
    exchange.table = form[3]
    return exchange


def least_exchange(ground, start, end, table):
    """The start, the end, the core and the table of the least form."""
    cells = places_of(ground, start, end)
    changed = [cell for cell, place, signs in cells if is_changed(table, place, signs)]
    if changed == []:
        return 0, 0, (0, 0), (0,)
    core = (changed[0], changed[-1] + 1)
    counted = [
        cell for cell, place, signs in cells
        if (cell < core[0] or cell >= core[1]) and tells_others(table, place, signs)
    ]
    first = min([core[0], *counted])
    last = max([core[1] - 1, *counted]) + 1
    # the cells left out have the sign 0 in the words that are looked at, and keep it
    below = ground.word_count(last, end)
    least = [table[index * below] // below for index in range(ground.word_count(first, last))]
    return first, last, core, tuple(least)


def places_of(ground, start, end):
    """The triples (cell, place, number of signs) of the cells of a stretch that can have several signs.

    The place is by how much the index of a word grows with the sign of the cell.
    """
    places = []
    place = ground.word_count(start, end)
    for at, signs in enumerate(cell_signs(ground, start, end)):
        if signs > 1:
            place = place // signs
            places.append((start + at, place, signs))
    return places


def is_changed(table, place, signs):
    """Whether some word gets another sign in a cell."""
    for old, new in enumerate(table):
        if old // place % signs != new // place % signs:
            return True
    return False


def tells_others(table, place, signs):
    """Whether two words that differ in a cell that is not changed alone become words that differ elsewhere, too."""
    for old, new in enumerate(table):
        part = old // place % signs * place
        if new - part != table[old - part]:
            return True
    return False


def check_grounds(one, other):
    """Raises UnlikeGrounds unless two exchanges have one ground."""
    if one.ground != other.ground:
        raise UnlikeGrounds()


def hull_of(one, other):
    """The hull of the stretches of two exchanges that are not empty."""
    return min(one.start, other.start), max(one.end, other.end)


def widened(exchange, start, end):
    """The list that tells for each word of a wider stretch, by index, the index of the new word."""
    count = len(exchange.table)
    below = exchange.ground.word_count(exchange.end, end)
    changes = [new - old for old, new in enumerate(exchange.table)]
    return [
        index + changes[index // below % count] * below
        for index in range(exchange.ground.word_count(start, end))
    ]


def clash(one, other):
    """None if both orders of two exchanges do the same, otherwise the first cell and the least word that tells."""
    check_grounds(one, other)
    if max(one.start, other.start) >= min(one.end, other.end):
        return None
    start, end = hull_of(one, other)
    check_limit("words", one.ground.word_count(start, end))
    ones = widened(one, start, end)
    others = widened(other, start, end)
    for index in range(len(ones)):
        if others[ones[index]] != ones[others[index]]:
            return start, word_on(one.ground, start, end, index)
    return None


def swap_signs(ground, cell, one, other):
    """The exchange that exchanges two signs of a cell."""
    signs = ground[cell]
    for sign in (one, other):
        if not is_number(sign, 0, signs - 1):
            raise NotAllowed(sign, cell)
    table = list(range(signs))
    table[one] = other
    table[other] = one
    return made_exchange(ground, cell, cell + 1, table)
