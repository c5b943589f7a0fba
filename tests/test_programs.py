"""Programs: points [16], [17] and the interface of borderflow/programs.py."""

import random
import unittest

from borderflow.deeds import inverse_deed, is_deed, sign_of, track_values
from borderflow.errors import InvalidDeed, InvalidSizes, InvalidText, NotAllowed, TooMany
from borderflow.machines import Machine
from borderflow.programs import Program
from borderflow.ratios import Ratio
from borderflow.rows import Row
from borderflow.rules import Rule
from tests.cases import CARRY, Case, some_row

ANYTHING = (None, True, False, 0, -1, 65, "", "2", (), [], (None,), Row((0,)), Ratio(2))
MOVE = ("move", 0, 1)
ADD = ("add", 1, ((0, 0),), (0, 1))


def some_deed(chance, sizes):
    kind = chance.choice(("move", "swap", "add"))
    track = chance.randrange(len(sizes))
    if kind == "move":
        return ("move", track, chance.randint(-4, 4))
    if kind == "swap":
        signs = list(range(Program(sizes).signs))
        chance.shuffle(signs)
        return ("swap", tuple(signs))
    places = [(other, offset) for other in range(len(sizes)) if other != track for offset in range(-3, 4)]
    reads = tuple(chance.sample(places, min(len(places), chance.randint(0, 3))))
    count = 1
    for other, _ in reads:
        count = count * sizes[other]
    return ("add", track, reads, tuple(chance.randrange(sizes[track]) for _ in range(count)))


def plain_values(sizes, deeds, row, cell):
    """The track values of a cell behind some deeds, by the words of point [16] alone."""
    if deeds == []:
        return list(track_values(sizes, row[cell]))
    *ahead, deed = deeds
    values = plain_values(sizes, ahead, row, cell)
    if deed[0] == "swap":
        return list(track_values(sizes, deed[1][sign_of(sizes, values)]))
    if deed[0] == "move":
        values[deed[1]] = plain_values(sizes, ahead, row, cell - deed[2])[deed[1]]
        return values
    index = 0
    for other, offset in deed[2]:
        index = index * sizes[other] + plain_values(sizes, ahead, row, cell + offset)[other]
    values[deed[1]] = (values[deed[1]] + deed[3][index]) % sizes[deed[1]]
    return values


def random_programs():
    chance = random.Random(3)
    for sizes in ((2,), (3,), (2, 2), (2, 3), (1, 4), (2, 1, 3), (2, 2, 2, 2, 2, 2), (64,), (8, 8)):
        for many in (0, 1, 1, 2, 3):
            yield Program(sizes, *[some_deed(chance, sizes) for _ in range(many)])


class Making(Case):
    def test_attributes(self):
        program = Program([2, 3], ("move", 0, 2), ("move", 1, -1), ("add", 0, ((1, 3),), (0, 1, 1)))
        self.assertEqual((program.sizes, program.signs, program.span), ((2, 3), 6, (-2, 4)))
        self.assertEqual(program.flow, Ratio(4, 3))
        self.assertEqual(repr(program), "Program(6 signs, 3 deeds)")
        self.assertEqual(len(program), 3)

    def test_without_deeds(self):
        program = Program((4,))
        self.assertEqual((program.deeds(), program.span, program.flow, len(program)), ([], (0, 0), Ratio(1), 0))
        self.assertIs(bool(program), True)
        self.assertEqual(repr(program), "Program(4 signs, 0 deeds)")
        self.assertEqual(program.step(Row((1,), (2,))), Row((1,), (2,)))

    def test_lists_are_copied_and_new(self):
        sizes = [2, 2]
        program = Program(sizes, MOVE)
        sizes[0] = 3
        self.assertEqual(program.sizes, (2, 2))
        program.deeds().append(ADD)
        self.assertEqual(program.deeds(), [MOVE])

    def test_limits(self):
        self.assertEqual(Program((64,)).signs, 64)
        self.assertEqual(Program((2,) * 6).signs, 64)
        self.assertEqual(Program((4, 16)).signs, 64)
        self.fails(TooMany, ("tracks", 65), Program, (13, 5))
        self.fails(TooMany, ("tracks", 64 ** 6), Program, (64,) * 6)
        moves = [("move", 0, 1)] * 13
        self.assertEqual(len(Program((2,), *moves[:12])), 12)
        self.fails(TooMany, ("deeds", 13), Program, (2,), *moves)

    def test_wrong_sizes(self):
        for value in (*ANYTHING, (0,), (65,), (2, True), [2] * 7):
            self.fails(InvalidSizes, (), Program, value)

    def test_wrong_deeds(self):
        for value in ANYTHING:
            self.fails(InvalidDeed, (0,), Program, (2, 2), value)
            self.fails(InvalidDeed, (2,), Program, (2, 2), MOVE, ADD, value, ("move", 9, 9))
        self.fails(InvalidDeed, (1,), Program, (2, 2), MOVE, ["move", 0, 1])

    def test_order_of_errors(self):
        wrong = ("move", 9, 9)
        self.fails(InvalidSizes, (), Program, (2, 65), *[wrong] * 13)
        self.fails(TooMany, ("tracks", 66), Program, (2, 33), *[wrong] * 13)
        self.fails(TooMany, ("deeds", 13), Program, (2, 32), *[wrong] * 13)
        self.fails(InvalidDeed, (0,), Program, (2, 32), *[wrong] * 12)

    def test_flows_of_moves_alone(self):
        self.assertEqual(Program((3, 2), ("move", 0, 12), ("move", 0, -12)).flow, Ratio(1))
        self.assertEqual(Program((3, 2), ("swap", (1, 2, 3, 4, 5, 0)), ("add", 0, (), (1,))).flow, Ratio(1))
        self.assertEqual(Program((64,), *[("move", 0, -12)] * 12).flow, Ratio(1, 64 ** 144))
        self.assertEqual(Program((1, 6), ("move", 0, 5), ("move", 1, -2)).flow, Ratio(1, 36))


class Steps(Case):
    def test_as_the_words_say(self):
        chance = random.Random(5)
        for program in random_programs():
            row = some_row(chance, program.signs)
            new = program.step(row)
            for cell in range(-14, 15):
                values = plain_values(program.sizes, program.deeds(), row, cell)
                self.assertEqual(new[cell], sign_of(program.sizes, values), (program.deeds(), row, cell))
            self.assertEqual(program.unstep(new), row)
            self.assertEqual(program.step(program.unstep(row)), row)

    def test_one_track_moves_as_a_whole(self):
        row = Row((1, 0), (2, 2), (3,), start=5)
        self.assertEqual(Program((4,), ("move", 0, 3)).step(row), row >> 3)
        self.assertEqual(Program((4,), ("move", 0, 3)).unstep(row), row << 3)

    def test_any_span_and_number_of_signs(self):
        moves = [("move", 0, 12)] * 12
        row = Row((0,), (63, 1), (2, 5), start=-2)
        self.assertEqual(Program((64,), *moves).step(row), row >> 144)
        beside = Program((32, 2), *moves)
        self.assertEqual(beside.span, (-144, 0))
        self.assertEqual(beside.unstep(beside.step(row)), row)
        self.assertEqual(beside.step(row)[142], 62)

    def test_rows_that_do_not_fit(self):
        program = Program((2, 2), MOVE)
        row = Row((0,), (4, 1, 5), (0,), start=-2)
        self.fails(NotAllowed, (5, 0), program.step, row)
        self.fails(NotAllowed, (4, -1), program.step, row >> 1)
        self.fails(NotAllowed, (4, -1), program.unstep, row >> 1)
        self.assertEqual(program.step(row=Row((3,))), Row((3,)))


class TakenBack(Case):
    def test_inverse_deeds_in_the_opposite_order(self):
        program = Program((2, 2), MOVE, ADD, ("swap", (1, 2, 3, 0)))
        self.assertEqual((~program).deeds(), [("swap", (3, 0, 1, 2)), ADD, ("move", 0, -1)])
        self.assertEqual((~program).flow, Ratio(1, 2))
        self.assertEqual(~~program, program)

    def test_spans_are_turned(self):
        self.assertEqual((~Program((2, 2), ("move", 0, 4), ("move", 1, -1))).span, (-1, 4))
        self.assertEqual((~Program((2, 2), ("add", 0, ((1, 3),), (0, 1)))).span, (0, 3))

    def test_steps(self):
        chance = random.Random(6)
        for program in random_programs():
            row = some_row(chance, program.signs)
            self.assertEqual((~program).step(row), program.unstep(row))


class Joined(Case):
    def test_deeds_of_both(self):
        one = Program((2, 2), MOVE)
        other = Program([2, 2], ADD, MOVE)
        self.assertEqual((one + other).deeds(), [MOVE, ADD, MOVE])
        self.assertEqual((one + other).flow, Ratio(4))
        self.assertEqual((one.deeds(), other.deeds()), ([MOVE], [ADD, MOVE]))
        self.assertEqual(one + Program((2, 2)), one)

    def test_errors(self):
        one = Program((2, 2), *[MOVE] * 12)
        self.fails(InvalidSizes, (), one.__add__, Program((4,)))
        self.fails(InvalidSizes, (), one.__add__, Program((2, 2, 1), MOVE))
        self.fails(TooMany, ("deeds", 13), one.__add__, Program((2, 2), MOVE))
        self.fails(TooMany, ("deeds", 24), one.__add__, one)
        self.assertEqual(len(one + Program((2, 2))), 12)

    def test_equal(self):
        self.assertTrue(Program([2, 2], MOVE) == Program((2, 2), MOVE))
        for other in (Program((2, 2)), Program((2, 2), ADD), Program((2, 2, 1), MOVE), Program((2, 2), MOVE, MOVE)):
            self.assertFalse(Program((2, 2), MOVE) == other)
            self.assertTrue(Program((2, 2), MOVE) != other)
        # both do the same
        self.assertFalse(Program((2,), ("move", 0, 0)) == Program((2,)))
        for value in (None, 2, (2, 2), [MOVE], "program 2 2\nmove 0 1\n", Program((2, 2), MOVE).as_rule()):
            self.assertFalse(Program((2, 2), MOVE) == value)


class Rules(Case):
    def test_carry(self):
        self.assertEqual(Program((2, 2), MOVE, ADD).as_rule(), Rule(4, -1, 0, CARRY))

    def test_same_as_the_program(self):
        chance = random.Random(7)
        done = 0
        for program in random_programs():
            width = program.span[1] - program.span[0] + 1
            if program.signs > 16 or program.signs ** width > 4096:
                continue
            done += 1
            rule = program.as_rule()
            row = some_row(chance, program.signs)
            self.assertEqual(rule.step(row), program.step(row))
            if program.signs ** (2 * max(map(abs, program.span))) <= 256:
                machine = program.as_machine()
                self.assertIs(type(machine), Machine)
                self.assertEqual((machine.rule, machine.back), (rule, (~program).as_rule()))
                self.assertEqual(machine.flow, program.flow)
        self.assertGreater(done, 15)

    def test_least_window(self):
        rule = Program((2, 2), ("move", 0, 2), ("move", 0, -2)).as_rule()
        self.assertEqual((rule.low, rule.high), (0, 0))
        far = Program((2,), *[("move", 0, 12)] * 12).as_rule()
        self.assertEqual((far.low, far.high, far.table), (-144, -144, (0, 1)))

    def test_limits(self):
        self.assertEqual(Program((4, 4), ("move", 0, 2)).as_rule().width, 3)
        self.fails(TooMany, ("table", 16 ** 4), Program((4, 4), ("move", 0, 3)).as_rule)
        self.fails(TooMany, ("signs", 17), Program((17,)).as_rule)
        self.fails(TooMany, ("signs", 17), Program((17,), ("move", 0, 1)).as_machine)
        self.fails(TooMany, ("signs", 32), Program((16, 2), *[("move", 0, 12)] * 12).as_rule)
        self.assertEqual(Program((1, 2), ("move", 0, 11)).as_rule().table, (0, 1))
        self.fails(TooMany, ("table", 2 ** 13), Program((1, 2), ("move", 0, 12)).as_rule)
        self.fails(TooMany, ("table", 2 ** 13), Program((1, 2), ("move", 0, 12)).as_machine)

    def test_machines_have_a_limit_of_halves(self):
        self.assertEqual(Program((2,), ("move", 0, 4)).as_machine().reach, 4)
        self.fails(TooMany, ("halves", 2 ** 10), Program((2,), ("move", 0, 5)).as_machine)
        self.fails(TooMany, ("halves", 4 ** 6), Program((2, 2), ("move", 0, 3)).as_machine)
        self.assertEqual(Program((2, 2), ("move", 0, 3)).as_rule().signs, 4)


class Texts(Case):
    def test_texts(self):
        program = Program((2, 3), ("move", 0, -2), ("add", 1, ((0, -1), (0, 2)), (0, 1, 2, 0)), ("add", 0, (), (1,)))
        text = "program 2 3\nmove 0 -2\nadd 1 0:-1 0:2 = 0 1 2 0\nadd 0 = 1\n"
        self.assertEqual(program.text(), text)
        self.assertEqual(str(program), text)
        self.assertEqual(Program.read(text), program)
        self.assertEqual(Program.read(text="program 4\n"), Program((4,)))
        self.assertEqual(Program((2,), ("swap", (1, 0))).text(), "program 2\nswap 1 0\n")

    def test_read_what_was_told(self):
        for program in random_programs():
            self.assertEqual(Program.read(program.text()), program)
        longest = Program((2, 2), *[ADD] * 12)
        self.assertEqual(Program.read(longest.text()), longest)

    def test_wrong_first_lines(self):
        wrong = (
            "program", "program ", "programs 2", " program 2", "Program 2", "program  2", "program 2 ", "program 02",
            "program +2", "program -2", "program 0", "program 65", "program 2 2 2 2 2 2 2", "program 13 5", "",
            "program 2,2", "program 2\t2", "program two", "program 1000000000", "row 0", "2 2", "program 64 2",
        )
        for line in wrong:
            for rest in ("", "\n", "\nmove 0 1\n", "\nmove 9 9\n"):
                if line + rest:
                    self.fails(InvalidText, (0, "form"), Program.read, line + rest)

    def test_wrong_lines_of_deeds(self):
        wrong = (
            "", "move", "move ", "move 0", "move 0 1 2", "move 0 13", "move 2 1", "move 0 01", "move  0 1", "move 0 1 ",
            "move 0 +1", "move 0 -0", "move -1 1", "Move 0 1", "moved 0 1", "swap", "swap ", "swap 0 1 2",
            "swap 0 1 2 3 4", "swap 0 1 2 2", "swap 0 1 2 4", "swap 0 1  2 3", "add", "add 0", "add 0 =", "add 0 = ",
            "add 0  = 1", "add 0 = 2", "add 0 = 0 0", "add 0 =  0", "add 0 = 0 ", "add 0= 0", "add 0 =0", "add 0 0 = 0",
            "add 0 1:0 = 0", "add 0 1:0 = 0 1 1", "add 0 1:0 = 0 2", "add 0 0:0 = 0 1", "add 0 2:0 = 0 1",
            "add 0 1:4 = 0 1", "add 0 1:00 = 0 1", "add 0 1:-0 = 0 1", "add 0 1: = 0 1", "add 0 :1 = 0 1",
            "add 0 1:0:0 = 0 1", "add 0 1 0 = 0 1", "add 0 1:0  = 0 1", "add 0 1:0,1:1 = 0 1 0 1",
            "add 0 1:0 1:0 = 0 1 0 1", "add 0 1:0 = 0 = 1", "add 0 1:0 = 0 1 = 0 1", "add 00 = 0", "add  = 0", "add = 0",
            "sub 0 = 1", "add0 = 1", "Add 0 1:0 = 0 1", "add\t0 = 1", "drop 0 1", "program 2 2", "move 0 1\r", "add 0 1:+1 = 0 1", "add 0 1:0 = +0 1", "move 0 1000000000",
            "add 0 1:0 1:1 1:2 1:3 = 0 0 0 0 0 0 0 0 0 0 0 0 0 0 0 0",
        )
        for line in wrong:
            self.fails(InvalidText, (1, "form"), Program.read, f"program 2 2\n{line}\n")
            self.fails(InvalidText, (2, "form"), Program.read, f"program 2 2\nmove 0 1\n{line}\nmove 9 9\n")

    def test_lines_that_are_right_for_other_sizes_alone(self):
        self.assertEqual(len(Program.read("program 4\nswap 3 2 1 0\n")), 1)
        self.fails(InvalidText, (1, "form"), Program.read, "program 5\nswap 3 2 1 0\n")
        self.fails(InvalidText, (2, "form"), Program.read, "program 2 2\nmove 1 1\nmove 2 1\n")
        self.fails(InvalidText, (1, "form"), Program.read, "program 2\nadd 0 0:1 = 0 1\n")

    def test_a_13th_deed(self):
        lines = "program 2\n" + "move 0 1\n" * 13
        self.fails(InvalidText, (13, "form"), Program.read, lines)
        self.fails(InvalidText, (13, "form"), Program.read, lines + "more\n")
        self.fails(InvalidText, (12, "form"), Program.read, "program 2\n" + "move 0 1\n" * 11 + "more\n" * 3)
        self.fails(InvalidText, (13, "form"), Program.read, "program 2\n" + "move 0 1\n" * 12 + "\n")
        self.assertEqual(len(Program.read("program 2\n" + "move 0 1\n" * 12)), 12)

    def test_missing_line_feeds(self):
        self.fails(InvalidText, (0, "form"), Program.read, "program 2 2")
        self.fails(InvalidText, (1, "form"), Program.read, "program 2 2\nmove 0 1")
        self.fails(InvalidText, (2, "form"), Program.read, "program 2 2\nmove 0 1\nmove 0")
        self.fails(InvalidText, (1, "form"), Program.read, "program 2 2\nmove 0 9999\nmove 0 1")
        self.fails(InvalidText, (13, "form"), Program.read, "program 2\n" + "move 0 1\n" * 12 + "move 0 1")

    def test_nothing_at_all(self):
        self.fails(InvalidText, (0, "missing"), Program.read, "")
        self.fails(InvalidText, (0, "form"), Program.read, "\n")
        self.fails(InvalidText, (0, "form"), Program.read, " ")

    def test_no_strings(self):
        for value in (None, 0, True, ("program 2\n",), ["program 2\n"], Program((2,)), Row((0,))):
            self.fails(InvalidText, (0, "form"), Program.read, value)


class Deeds(Case):
    def test_program_and_is_deed_agree(self):
        for program in random_programs():
            for deed in program.deeds():
                self.assertIs(is_deed(program.sizes, deed), True)
                self.assertIs(is_deed(program.sizes, inverse_deed(program.sizes, deed)), True)


if __name__ == "__main__":
    unittest.main()
