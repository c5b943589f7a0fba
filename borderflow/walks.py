"""Walks: floors with a present row, seen from the world, in which frames move."""

from borderflow.errors import InvalidNumber, UnlikeGrounds
from borderflow.grounds import check_fit
from borderflow.passes import next_row, row_before
from borderflow.words import is_number

FIRST = -5
END = 5
MOST_STEPS = 12
FARTHEST_RETURN = 24


class Walk:
    """A floor with its present row and the number of its steps so far."""

    def __init__(self, floor, row):
        check_fit(floor.ground, row)
        self.floor = floor
        self._row = row
        self._ticks = 0

    @property
    def row(self):
        """The present row."""
        return self._row

    @property
    def ticks(self):
        """The number of steps so far."""
        return self._ticks

    @property
    def place(self):
        """By how many cells the frame has moved so far."""
        return self._ticks * self.floor.frame[1]

    def tick(self, count=1):
        """Does some steps, backwards below 0."""
        if not is_number(count, -MOST_STEPS, MOST_STEPS):
            raise InvalidNumber(count)
        go(self, count)

    def change(self, exchange):
        """Does an exchange to the present row."""
        if exchange.ground != self.floor.ground:
            raise UnlikeGrounds()
        self._row = exchange.applied(self._row)

    def shown(self, first=FIRST, end=END):
        """The word that stands in the cells [first, end) of the world."""
        return self._row.word(first - self.place, end - self.place)

    def return_to(self, ticks):
        """Does steps until the number of steps so far is this one."""
        if not is_number(ticks, -FARTHEST_RETURN, FARTHEST_RETURN):
            raise InvalidNumber(ticks)
        go(self, ticks - self._ticks)

    def twin(self):
        """An independent walk in the same state."""
        other = Walk(self.floor, self._row)
        other._ticks = self._ticks
        return other

    def __repr__(self):
        return f"Walk({self._ticks} ticks)"


def go(walk, count):
    """Does so many steps of a walk, backwards below 0."""
    row = walk.row
    for _ in range(abs(count)):
        row = next_row(walk.floor, row) if count > 0 else row_before(walk.floor, row)
    walk._row = row
    walk._ticks = walk._ticks + count
