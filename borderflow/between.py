"""What was seen between walls: sayings about cells and crossings of a closed floor, counted word by word."""

from borderflow.basics import check_limit, inverse_order
from borderflow.errors import CantStand, InvalidNumber, InvalidSaying
from borderflow.floors import Closed, next_word
from borderflow.grounds import index_on, word_on
from borderflow.machines import wall
from borderflow.names import check_new_saying, check_old_saying, is_among
from borderflow.ratios import count_ratio
from borderflow.rows import made_row
from borderflow.words import is_number

FARTHEST_TICK = 4


class SeenBetween:
    """A closed floor and some sayings about its cells and crossings."""

    def __init__(self, floor):
        count = floor.ground.word_count(0, floor.cells)
        check_limit("seen", count)
        words = [word_on(floor.ground, 0, floor.cells, index) for index in range(count)]
        self.floor = floor
        self._sayings = []
        self._words = words
        self._crossings = [crossings_of(floor, word) for word in words]
        self._places = places_at([index_on(floor.ground, 0, next_word(floor, word)) for word in words])

    def say(self, name, cell, tick, *signs):
        """Puts a saying about a cell behind the others."""
        check_new_saying(names_between(self), name)
        if not is_cell_saying(self.floor, cell, tick, signs):
            raise InvalidSaying()
        self._sayings = [*self._sayings, (name, "cell", cell, tick, tuple(sorted(set(signs))))]

    def say_crossing(self, name, seam, tick, *pairs):
        """Puts a saying about a crossing behind the others."""
        check_new_saying(names_between(self), name)
        if not is_crossing_saying(self.floor, seam, tick, pairs):
            raise InvalidSaying()
        self._sayings = [*self._sayings, (name, "crossing", seam, tick, tuple(sorted(set(pairs))))]

    def unsay(self, name):
        """Takes a saying off."""
        check_old_saying(names_between(self), name)
        self._sayings = [saying for saying in self._sayings if saying[0] != name]

    def sayings(self):
        """The list of the tuples (name, "cell" or "crossing", cell or seam, tick, signs or pairs)."""
        return list(self._sayings)

    def __contains__(self, x):
        return is_among(names_between(self), x)

    def __len__(self):
        return len(self._sayings)

    def __bool__(self):
        return True

    def good_words(self, tick=0):
        """The ascending list of the good words at a tick."""
        check_tick(tick, FARTHEST_TICK)
        places = self._places[tick]
        return [self._words[place] for place in sorted([places[index] for index in kept_by(self, self._sayings)])]

    def ways(self):
        """The number of good words."""
        return len(kept_by(self, self._sayings))

    @property
    def share(self):
        """The number of good words, divided by the number of all words."""
        return count_ratio(self.ways(), len(self._words))

    def stands(self):
        """Whether there is a history that keeps all sayings."""
        return self.ways() > 0

    def clashing(self):
        """The name of the first saying that can't be kept together with all sayings ahead of it."""
        for at, saying in enumerate(self._sayings):
            if kept_by(self, self._sayings[:at + 1]) == []:
                return saying[0]
        return None

    def possible(self, cell, tick=0):
        """The ascending list of the signs that a cell has at a tick in good words."""
        if not is_number(cell, 0, self.floor.cells - 1):
            raise InvalidNumber(cell)
        return sorted({word[cell] for word in self.good_words(tick)})

    def possible_crossings(self, seam, tick=0):
        """The ascending list of the pairs that cross a seam at the step from a tick on, in good histories."""
        if not is_number(seam, 0, len(self.floor) - 2):
            raise InvalidNumber(seam)
        check_tick(tick, FARTHEST_TICK - 1)
        places = self._places[tick]
        return sorted({self._crossings[places[index]][seam] for index in kept_by(self, self._sayings)})

    def require(self):
        """Raises CantStand with the name that clashing tells, if there is one."""
        name = self.clashing()
        if name is not None:
            raise CantStand(name)

    def twin(self):
        """An independent object with the same sayings."""
        other = SeenBetween(Closed([wall()], [1]))
        other.floor = self.floor
        other._sayings = list(self._sayings)
        # what was worked out for the floor never changes
        other._words = self._words
        other._crossings = self._crossings
        other._places = self._places
        return other

    def __repr__(self):
        return f"SeenBetween({len(self._sayings)} sayings)"


def names_between(seen):
    """The list of the names of the sayings."""
    return [saying[0] for saying in seen.sayings()]


def check_tick(value, most):
    """Raises InvalidNumber unless any value is a tick up to this one."""
    if not is_number(value, -FARTHEST_TICK, most):
        raise InvalidNumber(value)


def crossings_of(floor, word):
    """The list of the crossings of all seams at the step of a word."""
    row = made_row((0,), word, (0,), 0)
    return [floor.crossing(row, seam) for seam in range(len(floor) - 1)]


def places_at(steps):
    """For each tick, a list that tells for each word at the tick 0, by index, the index of the word at this tick."""
    places = {0: list(range(len(steps)))}
    backs = inverse_order(steps)
    for tick in range(FARTHEST_TICK):
        places[tick + 1] = [steps[place] for place in places[tick]]
        places[-tick - 1] = [backs[place] for place in places[-tick]]
    return places


def is_cell_saying(floor, cell, tick, signs):
    """Whether these are a cell of a closed floor, a tick, and some of the signs that the cell can have."""
    if not is_number(cell, 0, floor.cells - 1) or not is_number(tick, -FARTHEST_TICK, FARTHEST_TICK):
        return False
    return len(signs) > 0 and all([is_number(sign, 0, floor.ground[cell] - 1) for sign in signs])


def is_crossing_saying(floor, seam, tick, pairs):
    """Whether these are a seam of a closed floor, a tick with a step behind it, and some crossings of the seam."""
    if not is_number(seam, 0, len(floor) - 2) or not is_number(tick, -FARTHEST_TICK, FARTHEST_TICK - 1):
        return False
    told = floor.seams()[seam]
    return len(pairs) > 0 and all([is_crossing(told, pair) for pair in pairs])


def is_crossing(seam, value):
    """Whether any value is a pair of a left and a right number of a seam."""
    if not isinstance(value, tuple) or len(value) != 2:
        return False
    return is_number(value[0], 0, seam.one.left - 1) and is_number(value[1], 0, seam.other.right - 1)


def kept_by(seen, sayings):
    """The indexes of the words at the tick 0 whose histories keep some sayings."""
    found = list(range(len(seen._words)))
    for _, kind, at, tick, told in sayings:
        shown = seen._words if kind == "cell" else seen._crossings
        places = seen._places[tick]
        found = [index for index in found if shown[places[index]][at] in told]
    return found
