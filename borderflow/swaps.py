"""Swaps: ticks of a machine on a ring and its partner that are done cell by cell, in any order."""

from borderflow.errors import CellsLeft, InvalidNumber, InvalidWord
from borderflow.words import is_number, is_ring


class Swaps:
    """A machine with two rings of one length, the partner and the main one, and the cells that are done."""

    def __init__(self, machine, partner, ring):
        for value in (partner, ring):
            if not is_ring(value, machine.signs):
                raise InvalidWord(value)
        if len(partner) != len(ring):
            raise InvalidWord(ring)
        self.machine = machine
        self._partner = partner
        self._main = ring
        self._ticks = 0
        self._done = tuple([False for _ in ring])

    @property
    def partner(self):
        """The word of the partner."""
        return self._partner

    @property
    def main(self):
        """The word of the other ring."""
        return self._main

    @property
    def ticks(self):
        """How many ticks were finished."""
        return self._ticks

    def swap(self, cell):
        """Does the swap at a cell."""
        check_cell(self._main, cell)
        exchange_cells(self, [cell])

    def swap_all(self, *cells):
        """Does the swaps at some cells."""
        for cell in cells:
            check_cell(self._main, cell)
        times = [0 for _ in self._main]
        for cell in cells:
            times[cell] = times[cell] + 1
        # swaps can be done in any order, and a swap that is done twice changes nothing
        exchange_cells(self, [cell for cell, many in enumerate(times) if many % 2 == 1])

    def done(self):
        """The ascending list of the cells that were done an odd number of times since the last tick was finished."""
        return [cell for cell, is_done in enumerate(self._done) if is_done]

    def cells_left(self):
        """The other cells, ascending."""
        for cell, is_done in enumerate(self._done):
            if not is_done:
                yield cell

    def finish(self):
        """Finishes the tick, if all cells are done."""
        left = len(self._done) - len(self.done())
        if left > 0:
            raise CellsLeft(left)
        self._partner, self._main = self._main, self._partner
        self._done = tuple([False for _ in self._done])
        self._ticks = self._ticks + 1

    def back_out(self):
        """Does the swaps at all cells that are done once more."""
        exchange_cells(self, self.done())

    def twin(self):
        """An independent object in the same state."""
        other = Swaps(self.machine, self._partner, self._main)
        other._ticks = self._ticks
        other._done = self._done
        return other

    def __len__(self):
        return len(self._main)

    def __bool__(self):
        return True

    def __repr__(self):
        return f"Swaps({len(self.done())} of {len(self._main)} cells)"


def check_cell(ring, value):
    """Raises InvalidNumber unless any value is a cell of a ring."""
    if not is_number(value, 0, len(ring) - 1):
        raise InvalidNumber(value)


def exchange_cells(swaps, cells):
    """Does the swaps at some cells, each of which stands there once."""
    old = swaps.machine.ring_step(swaps.main)
    new = list(old)
    partner = list(swaps.partner)
    done = list(swaps._done)
    for cell in cells:
        new[cell] = partner[cell]
        partner[cell] = old[cell]
        done[cell] = not done[cell]
    swaps._partner = tuple(partner)
    swaps._main = swaps.machine.ring_unstep(tuple(new))
    swaps._done = tuple(done)


def swapped(machine, partner, ring, cell):
    """The pair of the partner and the ring behind one swap."""
    swaps = Swaps(machine, partner, ring)
    swaps.swap(cell)
    return swaps.partner, swaps.main
