"""What values are: integers within bounds, sizes, names. Any value may be asked about."""

GREATEST_SIZE = 10 ** 30
LONGEST_NAME = 8
LETTERS = "abcdefghijklmnopqrstuvwxyz"
TEXT_WORDS = ("cost", "fee", "none", "order", "ready", "self", "chunks", "crew", "late", "at")


def is_integer(value):
    """Whether a value is an integer; a bool is none."""
    return isinstance(value, int) and not isinstance(value, bool)


def is_within(value, least, most):
    """Whether a value is an integer from least to most."""
    return is_integer(value) and least <= value <= most


def is_size(value):
    """Whether a value is the size of a chunk."""
    return is_within(value, 1, GREATEST_SIZE)


def is_name(value):
    """Whether a value is a name of a worker or a loop."""
    if not isinstance(value, str) or value in TEXT_WORDS:
        return False
    return 1 <= len(value) <= LONGEST_NAME and all([letter in LETTERS for letter in value])
