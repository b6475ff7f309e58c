"""The words of the texts of rules."""

from latechunks.checks import GREATEST_SIZE, is_within

MOST_PARTS = 6
MOST_FACTOR = 24
MOST_START = 1000
SIGNS = ("&", "|")


def is_factor(value, least):
    """Whether any value is an integer from least to the greatest divisor of a quotient."""
    return is_within(value, least, MOST_FACTOR)


def is_start(value):
    """Whether any value is what can be added ahead of a division."""
    return is_within(value, -MOST_START, MOST_START)


def read_rule(reader):
    """What the words of a rule tell, in order: the numbers of each part in a tuple, each sign behind what it joins."""
    told = []
    parts = 0
    # For each bracket that is open its sign, None as long as there was none.
    signs = []
    while parts == 0 or signs:
        while reader.at_hand() == "(":
            reader.expect("(")
            signs.append(None)
        if parts == MOST_PARTS:
            reader.refuse()
        told.append(read_part(reader))
        parts += 1
        while signs and signs[-1] is not None:
            reader.expect(")")
            told.append(signs.pop())
        if signs:
            signs[-1] = read_sign(reader)
    return told


def read_part(reader):
    """The tuple of the numbers of a part: one of a fixed size, three of a quotient."""
    word = reader.at_hand()
    reader.take(word if word in ("fixed", "divided") else None)
    if word == "fixed":
        return (reader.integer(1, GREATEST_SIZE),)
    x = reader.integer(0, MOST_FACTOR)
    y = reader.integer(-MOST_START, MOST_START)
    return x, y, reader.integer(1, MOST_FACTOR)


def read_sign(reader):
    """The sign that joins two rules."""
    word = reader.at_hand()
    return reader.take(word if word in SIGNS else None)
