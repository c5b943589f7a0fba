"""Rules: windows and tables that tell the new sign of each cell."""

from borderflow.basics import check_limit, is_whole, power_of, table_fault
from borderflow.errors import BorderError, InvalidNumber, InvalidTable, InvalidText, InvalidWindow, InvalidWord
from borderflow.errors import UnlikeSigns
from borderflow.rows import check_signs, told_row, window_word
from borderflow.texts import finished_lines, lines_text, numbers_text, read_head, read_numbers
from borderflow.words import is_number, is_ring, is_word, word_index, word_list

FARTHEST = 99
MOST_TIMES = 12
LINES = 2


class Rule:
    """A rule, told with its least window."""

    def __init__(self, signs, low, high, table):
        check_head(signs, low, high)
        check_table(signs, low, high, table)
        window = least_window(signs, low, high, tuple(table))
        self.signs = signs
        self.low = window[0]
        self.high = window[1]
        self.width = window[1] - window[0] + 1
        self.table = window[2]

    def on_word(self, word):
        """The new word of a word, empty if the word is shorter than the window."""
        if not is_word(word, self.signs):
            raise InvalidWord(word)
        return new_word(self, word)

    def ring_step(self, ring):
        """The next ring."""
        if not is_ring(ring, self.signs):
            raise InvalidWord(ring)
        length = len(ring)
        return new_word(self, tuple([ring[at % length] for at in range(self.low, length + self.high)]))

    def step(self, row):
        """The next row."""
        check_signs(row, self.signs)
        return new_row(self, row)

    def __add__(self, other):
        if not isinstance(other, Rule):
            return NotImplemented
        return one_then_other(self, other)

    def __mul__(self, other):
        if not isinstance(other, Rule):
            return NotImplemented
        return one_beside_other(self, other)

    def __rshift__(self, other):
        return made_rule(self.signs, self.low - other, self.high - other, self.table)

    def __lshift__(self, other):
        return made_rule(self.signs, self.low + other, self.high + other, self.table)

    def raised(self, k):
        """The rule done k times."""
        if not is_number(k, 0, MOST_TIMES):
            raise InvalidNumber(k)
        if k == 0:
            return same_rule(self.signs)
        rule = self
        for _ in range(k - 1):
            rule = one_then_other(rule, self)
        return rule

    def __pow__(self, other):
        return self.raised(other)

    def __eq__(self, other):
        if not isinstance(other, Rule):
            return NotImplemented
        if self.signs != other.signs or self.low != other.low or self.high != other.high:
            return False
        return self.table == other.table

    def text(self):
        """The two lines that tell the rule."""
        return lines_text([f"rule {self.signs} {self.low} {self.high}", numbers_text(self.table)])

    def __str__(self):
        return str(self.text())

    def __repr__(self):
        return f"Rule({self.signs} signs, window {self.low} to {self.high})"

    @staticmethod
    def read(text):
        """The rule with a text of two lines."""
        head = ()
        table = ()
        lines = finished_lines(text)
        for at, line in enumerate(lines):
            if at == 0:
                head = read_window(line)
            elif at == 1:
                table = read_table(line, head)
            if head is None or table is None or at >= LINES:
                raise InvalidText(at, "form")
        if len(lines) < LINES:
            raise InvalidText(len(lines), "missing")
        return Rule(head[0], head[1], head[2], table)


def check_head(signs, low, high):
    """Raises what the constructor raises for a number of signs and a window."""
    if not is_whole(signs) or signs < 1:
        raise InvalidNumber(signs)
    check_limit("signs", signs)
    if not is_number(low, -FARTHEST, FARTHEST) or not is_number(high, low, FARTHEST):
        raise InvalidWindow(low, high)
    check_limit("table", power_of(signs, high - low + 1))


def check_table(signs, low, high, table):
    """Raises what the constructor raises for the table of such a window."""
    fault = table_fault(table, power_of(signs, high - low + 1), signs)
    if fault is not None:
        raise InvalidTable(fault)


def read_window(line):
    """The three numbers of the first line of a text, None if the line is wrong."""
    numbers = None if line is None else read_head(line, "rule")
    if numbers is None or len(numbers) != 3:
        return None
    try:
        check_head(numbers[0], numbers[1], numbers[2])
    except BorderError:
        return None
    return numbers


def read_table(line, head):
    """The table of the second line of a text, None if the line is wrong."""
    table = None if line is None else read_numbers(line)
    try:
        check_table(head[0], head[1], head[2], table)
    except BorderError:
        return None
    return table


def made_rule(signs, low, high, table):
    """A rule that was worked out, whose window may lie beyond the bounds of what is passed."""
    window = least_window(signs, low, high, table)
    rule = Rule(1, 0, 0, (0,))
    rule.signs = signs
    rule.low = window[0]
    rule.high = window[1]
    rule.width = window[1] - window[0] + 1
    rule.table = window[2]
    return rule


def least_window(signs, low, high, table):
    """The least window of a rule, and the table for it."""
    first = low
    last = high
    items = table
    while first <= last and items == items[:len(items) // signs] * signs:
        items = items[:len(items) // signs]
        first = first + 1
    if first > last:
        return 0, 0, items * signs
    while last_cell_idle(signs, items):
        items = items[::signs]
        last = last - 1
    return first, last, items


def last_cell_idle(signs, items):
    """Whether the last cell of a window makes no difference."""
    parts = [items[place::signs] for place in range(signs)]
    return all([part == parts[0] for part in parts])


def new_word(rule, word):
    """The new word of a word that is known to be one over the signs of the rule."""
    size = len(rule.table)
    ahead = rule.width - 1
    index = word_index(word[:ahead], rule.signs)
    signs = []
    for sign in word[ahead:]:
        index = (index * rule.signs + sign) % size
        signs.append(rule.table[index])
    return tuple(signs)


def new_row(rule, row):
    """The next row of a row that is known to have signs of the rule alone."""
    word = new_word(rule, window_word(row, rule.low, rule.high))
    return told_row(row, rule.low, rule.high, word)


def new_sign(rule, word, first):
    """The new sign of cell 0, if a word stands in the cells from first on."""
    return rule.table[word_index(word[rule.low - first:rule.high - first + 1], rule.signs)]


def new_indexes(rule, length):
    """For each word of a length that is not below the width, in order, the index of its new word."""
    size = len(rule.table)
    indexes = list(rule.table)
    for _ in range(length - rule.width):
        indexes = [
            indexes[at // rule.signs] * rule.signs + rule.table[at % size]
            for at in range(len(indexes) * rule.signs)
        ]
    return indexes


def one_then_other(one, other):
    """First one rule, then the other."""
    if one.signs != other.signs:
        raise UnlikeSigns(one.signs, other.signs)
    width = one.width + other.width - 1
    check_limit("table", power_of(one.signs, width))
    table = tuple([other.table[index] for index in new_indexes(one, width)])
    return made_rule(one.signs, one.low + other.low, one.high + other.high, table)


def one_beside_other(one, other):
    """Two rules beside one another, on pairs of signs."""
    signs = one.signs * other.signs
    check_limit("signs", signs)
    low = min(one.low, other.low)
    high = max(one.high, other.high)
    check_limit("table", power_of(signs, high - low + 1))
    table = []
    for word in word_list(high - low + 1, signs):
        upper = new_sign(one, [sign // other.signs for sign in word], low)
        lower = new_sign(other, [sign % other.signs for sign in word], low)
        table.append(upper * other.signs + lower)
    return made_rule(signs, low, high, tuple(table))


def same_rule(signs):
    """The rule that changes nothing."""
    check_head(signs, 0, 0)
    return Rule(signs, 0, 0, list(range(signs)))


def move_rule(signs, d):
    """The rule that moves all signs by d cells to the right."""
    check_head(signs, 0, 0)
    if not is_whole(d):
        raise InvalidWindow(d, d)
    return Rule(signs, -d, -d, list(range(signs)))


def sum_rule(signs, low, high):
    """The new sign is the sum of the signs of the window, modulo their number."""
    check_head(signs, low, high)
    table = [sum(word) % signs for word in word_list(high - low + 1, signs)]
    return Rule(signs, low, high, table)
