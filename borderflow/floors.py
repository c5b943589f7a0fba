"""Floors: unlike machines side by side, joined at seams, with edits behind each step."""

from borderflow.basics import check_limit, cycle_lengths, is_listing
from borderflow.errors import InvalidNumber, InvalidPart, InvalidWord, InvalidZone, TooNarrow, UnlikeFlows
from borderflow.errors import UnlikeGrounds
from borderflow.grounds import Ground, check_fit, index_on, is_word_on, word_on
from borderflow.joints import Joint
from borderflow.machines import Machine, wall
from borderflow.passes import next_row, row_before
from borderflow.rows import made_row
from borderflow.seams import Seam
from borderflow.speeds import AT_REST, check_frame, common_frame, framed
from borderflow.words import is_number

WIDEST = 400


class Floor:
    """Zones from left to right, each with a machine, and a seam between any two of them."""

    def __init__(self, machines, *, widths=(), matchings=None, edits=(), frame=(1, 0)):
        check_zones(machines)
        check_limit("zones", len(machines))
        check_frame(frame)
        inside = list(machines) if frame == AT_REST else [framed(machine, frame) for machine in machines]
        check_flows(inside)
        check_widths(inside, widths)
        seams = made_seams(inside, matchings)
        ground = made_floor_ground(inside, widths)
        check_edits(ground, edits)
        self.ground = ground
        self.flow = inside[0].flow
        self.frame = frame
        self.reach = floor_reach(inside, edits)
        self._machines = inside
        self._widths = list(widths)
        self._borders = borders_of(inside, widths)
        self.joints = tuple([Joint(seam) for seam in seams])
        self._edits = list(edits)

    def machines(self):
        """The list of the machines, in the frame."""
        return list(self._machines)

    def borders(self):
        """The list of the borders of the seams."""
        return list(self._borders)

    def seams(self):
        """The list of the seams."""
        return [joint.seam for joint in self.joints]

    def widths(self):
        """The list of the widths of the zones that are not endless."""
        return list(self._widths)

    def edits(self):
        """The list of the edits."""
        return list(self._edits)

    def zones(self):
        """The triples (first, end, machine) of the zones, with None for an end that is endless."""
        stops = [None, *self._borders, None]
        for at, machine in enumerate(self._machines):
            yield stops[at], stops[at + 1], machine

    def machine_at(self, cell):
        """The machine, in the frame, of a cell."""
        return self._machines[len([border for border in self._borders if border <= cell])]

    def step(self, row):
        """The next row."""
        check_fit(self.ground, row)
        return next_row(self, row)

    def unstep(self, row):
        """The row before."""
        check_fit(self.ground, row)
        return row_before(self, row)

    def crossing(self, row, seam):
        """The pair (lambda, rho) that the word around a seam tells."""
        if not is_number(seam, 0, len(self.joints) - 1):
            raise InvalidNumber(seam)
        check_fit(self.ground, row)
        border = self._borders[seam]
        told = self.joints[seam].seam
        return told.numbers(row.word(border - told.one.reach, border + told.other.reach))

    def with_edit(self, exchange):
        """The floor with one more edit, behind the others."""
        check_edits(self.ground, [exchange])
        return edited(self, Floor([wall()]), exchange)

    def __eq__(self, other):
        if not isinstance(other, Floor):
            return NotImplemented
        return are_equal_floors(self, other)

    def __len__(self):
        return len(self._machines)

    def __repr__(self):
        return f"Floor({len(self._machines)} zones, flow {self.flow})"


class Closed(Floor):
    """A floor of one to four middles between walls."""

    def __init__(self, machines, widths, *, matchings=None, edits=()):
        check_zones(machines)
        super().__init__([wall(), *machines, wall()], widths=widths, matchings=matchings, edits=edits)
        self.cells = sum(widths)

    def with_edit(self, exchange):
        """The closed floor with one more edit, behind the others."""
        check_edits(self.ground, [exchange])
        floor = edited(self, Closed([wall()], [1]), exchange)
        floor.cells = self.cells
        return floor

    def word_step(self, word):
        """The next word."""
        check_closed_word(self, word)
        return next_word(self, word)

    def word_unstep(self, word):
        """The word before."""
        check_closed_word(self, word)
        return row_before(self, made_row((0,), word, (0,), 0)).word(0, self.cells)

    def home(self, word):
        """The least number of steps, from 1, after which a word has come back."""
        check_closed_word(self, word)
        check_limit("words", self.ground.word_count(0, self.cells))
        steps = 1
        new = next_word(self, word)
        while new != word:
            new = next_word(self, new)
            steps = steps + 1
        return steps

    def rounds(self):
        """The ascending list of the pairs (home, number of words that have it)."""
        count = self.ground.word_count(0, self.cells)
        check_limit("words", count)
        words = [word_on(self.ground, 0, self.cells, index) for index in range(count)]
        lengths = cycle_lengths([index_on(self.ground, 0, next_word(self, word)) for word in words])
        return [(length, length * lengths.count(length)) for length in sorted(set(lengths))]

    def __eq__(self, other):
        if not isinstance(other, Floor):
            return NotImplemented
        return are_equal_floors(self, other)

    def __repr__(self):
        return f"Closed({self.cells} cells)"


def check_zones(machines):
    """Raises InvalidZone unless any value is a list or tuple of machines that is not empty."""
    if not isinstance(machines, (list, tuple)) or len(machines) == 0:
        raise InvalidZone(-1)
    for at, machine in enumerate(machines):
        if not isinstance(machine, Machine):
            raise InvalidZone(at)


def check_flows(machines):
    """Raises UnlikeFlows unless all machines have one flow."""
    for at in range(len(machines) - 1):
        if machines[at].flow != machines[at + 1].flow:
            raise UnlikeFlows(machines[at].flow, machines[at + 1].flow)


def check_widths(machines, widths):
    """Raises InvalidPart or TooNarrow unless there is a width for each zone that is not endless."""
    if not is_listing(widths, max(0, len(machines) - 2)):
        raise InvalidPart(-1)
    for at, width in enumerate(widths):
        if not is_number(width, 0, WIDEST):
            raise InvalidPart(at)
    for at, width in enumerate(widths):
        least = max(4 * machines[at + 1].reach, 1)
        if width < least:
            raise TooNarrow(at + 1, least)


def made_seams(machines, matchings):
    """The seams between machines side by side; raises InvalidPart unless there is a matching for each of them."""
    count = len(machines) - 1
    if matchings is None:
        return [Seam(machines[at], machines[at + 1]) for at in range(count)]
    if not is_listing(matchings, count):
        raise InvalidPart(-1)
    return [Seam(machines[at], machines[at + 1], matching=matchings[at]) for at in range(count)]


def borders_of(machines, widths):
    """The borders of the seams."""
    return [sum(widths[:at]) for at in range(len(machines) - 1)]


def made_floor_ground(machines, widths):
    """The ground with the signs of the machines of all zones."""
    first = machines[0].signs
    parts = [(border, machine.signs) for border, machine in zip(borders_of(machines, widths), machines[1:])]
    return Ground(first, *parts)


def check_edits(ground, edits):
    """Raises UnlikeGrounds unless all edits are exchanges on a ground."""
    for edit in edits:
        if edit.ground != ground:
            raise UnlikeGrounds()


def floor_reach(machines, edits):
    """How far a cell of a floor depends on others at most, at a step and a step back."""
    reaches = [machine.reach for machine in machines]
    for at in range(len(machines) - 1):
        greater = max(machines[at].reach, machines[at + 1].reach)
        lesser = min(machines[at].reach, machines[at + 1].reach)
        if greater > 0:
            reaches.append(4 * greater + lesser - 1)
    return max(reaches) + sum([edit_reach(edit) for edit in edits])


def edit_reach(edit):
    """By how much an edit makes the reach of a floor greater."""
    return 0 if edit.is_empty() else edit.end - edit.start - 1


def edited(floor, new, exchange):
    """A new floor, made to be the same as another one with one more edit."""
    new.ground = floor.ground
    new.flow = floor.flow
    new.frame = floor.frame
    new.reach = floor.reach + edit_reach(exchange)
    new._machines = floor._machines
    new._widths = floor._widths
    new._borders = floor._borders
    new.joints = floor.joints
    new._edits = [*floor._edits, exchange]
    return new


def are_equal_floors(one, other):
    """Whether two floors have equal frames, machines, widths, matchings and edits."""
    if one.frame != other.frame or one.widths() != other.widths():
        return False
    # seams are equal if both machines and the matchings are
    return one.machines() == other.machines() and one.seams() == other.seams() and one.edits() == other.edits()


def check_closed_word(floor, value):
    """Raises InvalidWord unless any value is a word of a closed floor."""
    if not is_word_on(floor.ground, 0, value) or len(value) != floor.cells:
        raise InvalidWord(value)


def next_word(floor, word):
    """The next word of a word that is known to be one of a closed floor."""
    return next_row(floor, made_row((0,), word, (0,), 0)).word(0, floor.cells)


def moving_floor(machines, *, widths=(), matchings=None):
    """The floor of some machines in their common frame."""
    check_zones(machines)
    check_limit("zones", len(machines))
    frame = common_frame([(machine.flow, machine.signs) for machine in machines])
    check_limit("ticks", max(frame[0], abs(frame[1])))
    return Floor(machines, widths=widths, matchings=matchings, frame=frame)
