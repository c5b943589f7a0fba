"""The texts of things: lines with numbers in decimal digits."""

DIGITS = "0123456789"
MOST_DIGITS = 9
PART_DIGITS = 64


def number_text(number):
    """The text of a number of any size: Python's own text is for numbers of not too many digits alone."""
    if number < 0:
        return f"-{number_text(-number)}"
    pieces = []
    rest = number
    while rest >= 10 ** 64:
        rest, piece = divmod(rest, 10 ** 64)
        pieces.append(str(piece).zfill(PART_DIGITS))
    return "".join([str(rest), *pieces[::-1]])


def numbers_text(numbers):
    """Numbers with one space between."""
    return " ".join([str(number) for number in numbers])


def lines_text(lines):
    """The text of some lines, each ended by a line feed."""
    return "".join([line + "\n" for line in lines])


def finished_lines(value):
    """The lines of a text, with None for one that is not ended; for a value that is no string, just None."""
    if not isinstance(value, str):
        return [None]
    lines = value.split("\n")
    if lines[-1] == "":
        return lines[:-1]
    return [*lines[:-1], None]


def read_number(piece):
    """The number that a piece of a line tells, None if its form is wrong."""
    digits = piece[1:] if piece.startswith("-") else piece
    if digits == "" or len(digits) > MOST_DIGITS:
        return None
    if not all([digit in DIGITS for digit in digits]):
        return None
    if digits[0] == "0" and piece != "0":
        return None
    return int(piece)


def read_numbers(line):
    """The tuple of the numbers of a line, None if its form is wrong."""
    if line == "":
        return ()
    numbers = [read_number(piece) for piece in line.split(" ")]
    if None in numbers:
        return None
    return tuple(numbers)


def read_head(line, word):
    """The numbers behind the first word of a line, None if its form is wrong."""
    if not line.startswith(word + " "):
        return None
    return read_numbers(line[len(word) + 1:])
