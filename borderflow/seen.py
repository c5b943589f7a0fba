"""What was seen of a machine: sayings about cells, and what they leave open, counted exactly."""

from borderflow.basics import check_limit, power_of
from borderflow.errors import CantStand, DuplicateName, InvalidNumber, InvalidSaying, UnlikeMachines
from borderflow.names import check_new_saying, check_old_saying, is_among
from borderflow.pulling import cell_signs_of, good_count, good_word, is_kept, pulls_at, told_stretch
from borderflow.ratios import count_ratio
from borderflow.rows import made_row
from borderflow.words import is_number

FARTHEST_CELL = 20
FARTHEST_TICK = 4


class Seen:
    """A machine and some sayings about its cells."""

    def __init__(self, machine):
        self.machine = machine
        self._sayings = []

    def say(self, name, cell, tick, *signs):
        """Puts a saying behind the others."""
        check_new_saying(names_of(self), name)
        if not is_saying(self.machine.signs, cell, tick, signs):
            raise InvalidSaying()
        self._sayings = [*self._sayings, (name, cell, tick, tuple(sorted(set(signs))))]

    def unsay(self, name):
        """Takes a saying off."""
        check_old_saying(names_of(self), name)
        self._sayings = [saying for saying in self._sayings if saying[0] != name]

    def sayings(self):
        """The list of the tuples (name, cell, tick, signs)."""
        return list(self._sayings)

    def __contains__(self, x):
        return is_among(names_of(self), x)

    def __len__(self):
        return len(self._sayings)

    def __bool__(self):
        return True

    def stretch(self, tick=0):
        """The told stretch."""
        return told_stretch(pulls_of(self, tick))

    def ways(self, tick=0):
        """The number of good words."""
        return good_count(pulls_of(self, tick), self.machine.signs)

    def share_at(self, tick=0):
        """The number of good words, divided by the number of all words of the told stretch."""
        first, end = self.stretch(tick)
        return count_ratio(self.ways(tick), power_of(self.machine.signs, end - first))

    @property
    def share(self):
        """The share, which is the same at each tick."""
        return self.share_at(0)

    def stands(self, tick=0):
        """Whether there is a history that keeps all sayings."""
        return is_kept(pulls_of(self, tick), self.machine.signs)

    def clashing(self, tick=0):
        """The name of the first saying that can't be kept together with all sayings ahead of it."""
        pulls = pulls_of(self, tick)
        if is_kept(pulls, self.machine.signs):
            return None
        count = 1
        while is_kept(pulls[:count], self.machine.signs):
            count = count + 1
        return self._sayings[count - 1][0]

    def possible(self, cell, tick=0):
        """The ascending list of the signs that a cell has at a tick in histories that keep all sayings."""
        return cell_signs_of(pulls_of(self, tick), self.machine.signs, cell)

    def sure(self, cell, tick=0):
        """The only possible sign of a cell, None if there are none or several."""
        signs = self.possible(cell, tick)
        return signs[0] if len(signs) == 1 else None

    def row_with(self, cell, sign, tick=0):
        """A row at a tick of a history that keeps all sayings, with this sign in a cell, None if there is none."""
        pulls = pulls_of(self, tick)
        signs = self.machine.signs
        if not is_number(sign, 0, signs - 1):
            return None
        told = [*pulls, (cell, cell + 1, [other == sign for other in range(signs)])]
        word = good_word(told, signs)
        return None if word is None else made_row((0,), word, (0,), told_stretch(told)[0])

    def require(self, tick=0):
        """Raises CantStand with the name that clashing tells, if there is one."""
        name = self.clashing(tick)
        if name is not None:
            raise CantStand(name)

    def __add__(self, other):
        if not isinstance(other, Seen):
            return NotImplemented
        if self.machine != other.machine:
            raise UnlikeMachines()
        for name in names_of(other):
            if name in names_of(self):
                raise DuplicateName(name)
        check_limit("sayings", len(self) + len(other))
        return seen_with(self.machine, [*self._sayings, *other._sayings])

    def twin(self):
        """An independent seen set with the same sayings."""
        return seen_with(self.machine, self._sayings)

    def __eq__(self, other):
        if not isinstance(other, Seen):
            return NotImplemented
        return self.machine == other.machine and self._sayings == other._sayings

    def __repr__(self):
        return f"Seen({len(self._sayings)} sayings)"


def names_of(seen):
    """The list of the names of the sayings."""
    return [saying[0] for saying in seen.sayings()]


def is_saying(signs, cell, tick, told):
    """Whether these are a cell, a tick, and some of so many signs."""
    if not is_number(cell, -FARTHEST_CELL, FARTHEST_CELL) or not is_number(tick, -FARTHEST_TICK, FARTHEST_TICK):
        return False
    return len(told) > 0 and all([is_number(sign, 0, signs - 1) for sign in told])


def pulls_of(seen, tick):
    """The pulls of all sayings to a tick; raises InvalidNumber for the tick, and TooMany for one that is too wide."""
    if not is_number(tick, -FARTHEST_TICK, FARTHEST_TICK):
        raise InvalidNumber(tick)
    return pulls_at(seen.machine, seen.sayings(), tick)


def seen_with(machine, sayings):
    """The seen set with these sayings."""
    seen = Seen(machine)
    seen._sayings = list(sayings)
    return seen
