"""Deeds of programs: tracks that move, signs that are renamed, and values that are added to a track."""

from borderflow.basics import inverse_order, order_fault, table_fault
from borderflow.texts import numbers_text, read_number, read_numbers
from borderflow.words import is_number

MOST_TRACKS = 6
MOST_VALUES = 64
FARTHEST_MOVE = 12
MOST_READS = 3
FARTHEST_READ = 3


def is_sizes(value):
    """Whether any value gives the sizes of tracks."""
    if not isinstance(value, (list, tuple)) or not is_number(len(value), 1, MOST_TRACKS):
        return False
    return all([is_number(size, 1, MOST_VALUES) for size in value])


def is_deed(sizes, value):
    """Whether any value is a deed for such sizes."""
    if not isinstance(value, tuple) or len(value) < 2 or not isinstance(value[0], str):
        return False
    if value[0] == "move" and len(value) == 3:
        return is_track(sizes, value[1]) and is_number(value[2], -FARTHEST_MOVE, FARTHEST_MOVE)
    if value[0] == "swap" and len(value) == 2:
        return isinstance(value[1], tuple) and order_fault(value[1], product_of(sizes)) is None
    if value[0] == "add" and len(value) == 4:
        return is_track(sizes, value[1]) and is_adding(sizes, value[1], value[2], value[3])
    return False


def is_track(sizes, value):
    """Whether any value is the index of a track."""
    return is_number(value, 0, len(sizes) - 1)


def is_adding(sizes, track, reads, table):
    """Whether any two values are reads and a table for a deed that adds to a track."""
    if not isinstance(reads, tuple) or len(reads) > MOST_READS or not isinstance(table, tuple):
        return False
    if not all([is_read(sizes, track, read) for read in reads]) or len(set(reads)) < len(reads):
        return False
    count = product_of([sizes[read[0]] for read in reads])
    return table_fault(table, count, sizes[track]) is None


def is_read(sizes, track, value):
    """Whether any value is a pair of another track and an offset."""
    if not isinstance(value, tuple) or len(value) != 2:
        return False
    if not is_track(sizes, value[0]) or value[0] == track:
        return False
    return is_number(value[1], -FARTHEST_READ, FARTHEST_READ)


def product_of(numbers):
    """The product of some numbers."""
    result = 1
    for number in numbers:
        result = result * number
    return result


def inverse_deed(sizes, deed):
    """The deed taken back."""
    if deed[0] == "move":
        return ("move", deed[1], -deed[2])
    if deed[0] == "swap":
        return ("swap", inverse_order(deed[1]))
    size = sizes[deed[1]]
    return ("add", deed[1], deed[2], tuple([-item % size for item in deed[3]]))


def deed_span(sizes, deed):
    """The span of a deed: the relative cells on which the new signs depend at most."""
    if deed[0] == "swap":
        return 0, 0
    if deed[0] == "move":
        if len(sizes) == 1:
            return -deed[2], -deed[2]
        return min(0, -deed[2]), max(0, -deed[2])
    offsets = [0, *[read[1] for read in deed[2]]]
    return min(offsets), max(offsets)


def deed_text(deed):
    """The line that tells a deed, without a line feed."""
    if deed[0] == "move":
        return f"move {deed[1]} {deed[2]}"
    if deed[0] == "swap":
        return f"swap {numbers_text(deed[1])}"
    reads = "".join([f" {read[0]}:{read[1]}" for read in deed[2]])
    return f"add {deed[1]}{reads} = {numbers_text(deed[3])}"


def read_deed(line):
    """What a line tells of a deed, which may still be none, and None if its form is wrong."""
    if line.startswith("move "):
        numbers = read_numbers(line[5:])
        return None if numbers is None else ("move", *numbers)
    if line.startswith("swap "):
        return ("swap", read_numbers(line[5:]))
    if not line.startswith("add ") or " = " not in line:
        return None
    ahead, _, behind = line[4:].partition(" = ")
    track, *reads = ahead.split(" ")
    return ("add", read_number(track), tuple([read_pair(read) for read in reads]), read_numbers(behind))


def read_pair(piece):
    """The pair that two numbers with a colon between tell, None if the form is wrong."""
    numbers = [read_number(part) for part in piece.split(":")]
    return None if None in numbers else tuple(numbers)


def track_values(sizes, sign):
    """The word of the values that the tracks have in a sign."""
    return tuple([value_in(sizes, track, sign) for track in range(len(sizes))])


def sign_of(sizes, values):
    """The sign with these values of the tracks."""
    sign = 0
    for track, value in enumerate(values):
        sign = sign * sizes[track] + value
    return sign


def value_in(sizes, track, sign):
    """The value of a track in a sign."""
    return sign // place_of(sizes, track) % sizes[track]


def place_of(sizes, track):
    """By how much a sign grows with the value of a track."""
    return product_of(sizes[track + 1:])


def deeds_on_word(sizes, deeds, word):
    """The new word of a word, behind some deeds, which is shorter by the width of their spans."""
    new = word
    for deed in deeds:
        new = deed_on_word(sizes, deed, new)
    return new


def deed_on_word(sizes, deed, word):
    """The new word of a word behind one deed."""
    if deed[0] == "swap":
        return tuple([deed[1][sign] for sign in word])
    if deed[0] == "move":
        return moved_word(sizes, deed, word)
    return added_word(sizes, deed, word)


def moved_word(sizes, deed, word):
    """The new word of a word behind a move."""
    if len(sizes) == 1:
        return word
    track = deed[1]
    place = place_of(sizes, track)
    values = [sign // place % sizes[track] for sign in word]
    low, high = deed_span(sizes, deed)
    return tuple([
        word[at] + (values[at - deed[2]] - values[at]) * place
        for at in range(-low, len(word) - high)
    ])


def added_word(sizes, deed, word):
    """The new word of a word behind a deed that adds to a track."""
    track = deed[1]
    size = sizes[track]
    place = place_of(sizes, track)
    # beside each other track and its offset, what its values and signs have to be divided by
    reads = [(sizes[other], place_of(sizes, other), offset) for other, offset in deed[2]]
    low, high = deed_span(sizes, deed)
    signs = []
    for at in range(-low, len(word) - high):
        index = 0
        for many, other_place, offset in reads:
            index = index * many + word[at + offset] // other_place % many
        value = word[at] // place % size
        signs.append(word[at] + ((value + deed[3][index]) % size - value) * place)
    return tuple(signs)
