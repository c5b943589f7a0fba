"""Programs: deeds that are done one after the other on several tracks."""

from borderflow.basics import check_limit, power_of
from borderflow.deeds import deed_span, deed_text, deeds_on_word, inverse_deed, is_deed, is_sizes, product_of, read_deed
from borderflow.errors import LIMITS, InvalidDeed, InvalidSizes, InvalidText
from borderflow.machines import known_machine
from borderflow.ratios import Ratio
from borderflow.rows import check_signs, told_row, window_word
from borderflow.rules import made_rule
from borderflow.texts import finished_lines, lines_text, numbers_text, read_head
from borderflow.words import word_list


class Program:
    """Deeds for signs that stand for the values of several tracks."""

    def __init__(self, sizes, *deeds):
        if not is_sizes(sizes):
            raise InvalidSizes()
        check_limit("tracks", product_of(sizes))
        check_limit("deeds", len(deeds))
        for at, deed in enumerate(deeds):
            if not is_deed(sizes, deed):
                raise InvalidDeed(at)
        self.sizes = tuple(sizes)
        self.signs = product_of(sizes)
        self.span = span_of(sizes, deeds)
        self.flow = flow_of(sizes, deeds)
        self._deeds = deeds

    def deeds(self):
        """The list of the deeds."""
        return list(self._deeds)

    def step(self, row):
        """The next row."""
        check_signs(row, self.signs)
        low, high = self.span
        word = deeds_on_word(self.sizes, self._deeds, window_word(row, low, high))
        return told_row(row, low, high, word)

    def unstep(self, row):
        """The row before."""
        return taken_back(self).step(row)

    def __invert__(self):
        return taken_back(self)

    def __add__(self, other):
        if not isinstance(other, Program):
            return NotImplemented
        if self.sizes != other.sizes:
            raise InvalidSizes()
        deeds = [*self._deeds, *other._deeds]
        return Program(self.sizes, *deeds)

    def as_rule(self):
        """The rule that does the same."""
        low, high = self.span
        check_limit("signs", self.signs)
        check_limit("table", power_of(self.signs, high - low + 1))
        words = word_list(high - low + 1, self.signs)
        table = [deeds_on_word(self.sizes, self._deeds, word)[0] for word in words]
        return made_rule(self.signs, low, high, tuple(table))

    def as_machine(self):
        """The machine that does the same."""
        rule = self.as_rule()
        return known_machine(rule, taken_back(self).as_rule())

    def __eq__(self, other):
        if not isinstance(other, Program):
            return NotImplemented
        return self.sizes == other.sizes and self._deeds == other._deeds

    def __len__(self):
        return len(self._deeds)

    def __bool__(self):
        return True

    def text(self):
        """The lines that tell the program."""
        return lines_text([f"program {numbers_text(self.sizes)}", *[deed_text(deed) for deed in self._deeds]])

    def __str__(self):
        return str(self.text())

    def __repr__(self):
        return f"Program({self.signs} signs, {len(self._deeds)} deeds)"

    @staticmethod
    def read(text):
        """The program with a text of a line for its sizes and a line for each deed."""
        sizes = ()
        deeds = []
        for at, line in enumerate(finished_lines(text)):
            if at == 0:
                sizes = read_sizes(line)
            else:
                deeds.append(read_step(sizes, line))
            if sizes is None or None in deeds or len(deeds) > LIMITS["deeds"]:
                raise InvalidText(at, "form")
        if sizes == ():
            raise InvalidText(0, "missing")
        return Program(sizes, *deeds)


def read_sizes(line):
    """The sizes that the first line of a text tells, None if the line is wrong."""
    sizes = None if line is None else read_head(line, "program")
    if not is_sizes(sizes) or product_of(sizes) > LIMITS["tracks"]:
        return None
    return sizes


def read_step(sizes, line):
    """The deed that another line of a text tells, None if the line is wrong."""
    deed = None if line is None else read_deed(line)
    return deed if is_deed(sizes, deed) else None


def taken_back(program):
    """The program with the inverse deeds in the opposite order."""
    deeds = [inverse_deed(program.sizes, deed) for deed in program.deeds()]
    deeds = deeds[::-1]
    return Program(program.sizes, *deeds)


def span_of(sizes, deeds):
    """The sum of the spans of some deeds."""
    spans = [deed_span(sizes, deed) for deed in deeds]
    return sum([span[0] for span in spans]), sum([span[1] for span in spans])


def flow_of(sizes, deeds):
    """The product of the sizes of moved tracks, each to the power of its move."""
    flow = Ratio(1)
    for deed in deeds:
        if deed[0] == "move":
            flow = flow * Ratio(sizes[deed[1]]).raised(deed[2])
    return flow
