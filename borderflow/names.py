"""Names of things and of sayings."""

from borderflow.basics import check_limit
from borderflow.errors import DuplicateName, InvalidName, UnknownName

LETTERS = "abcdefghijklmnopqrstuvwxyz"
LONGEST = 8


def is_name(value):
    """Whether any value is a name: a string of 1 to 8 lowercase letters."""
    if not isinstance(value, str) or value == "" or len(value) > LONGEST:
        return False
    return all([letter in LETTERS for letter in value])


def is_among(names, value):
    """Whether any value is one of some names."""
    return isinstance(value, str) and value in names


def check_new_saying(names, value):
    """Raises what saying a further thing under any value raises, beside sayings with these names."""
    if not is_name(value):
        raise InvalidName(value)
    if value in names:
        raise DuplicateName(value)
    check_limit("sayings", len(names) + 1)


def check_old_saying(names, value):
    """Raises UnknownName unless any value is one of these names."""
    if not is_among(names, value):
        raise UnknownName(value)
