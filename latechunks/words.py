"""The words of texts: integers as they are written, and texts read word by word."""

from latechunks.checks import is_name, is_within
from latechunks.errors import BadText

PIECE_FIGURES = 60
PIECE_WORTH = 10 ** 60


def integer_text(value):
    """What str tells of an integer, at any length: str itself refuses integers of too many figures."""
    pieces = []
    left = abs(value)
    while left >= PIECE_WORTH:
        pieces.append(str(left % PIECE_WORTH).zfill(PIECE_FIGURES))
        left = left // PIECE_WORTH
    pieces.append(str(left))
    if value < 0:
        pieces.append("-")
    return "".join(pieces[::-1])


def integer_of(word):
    """The integer of any length that any value writes just as str does, None if it writes none."""
    if not isinstance(word, str):
        return None
    figures = word.removeprefix("-")
    if not figures.isascii() or not figures.isdigit():
        return None
    if figures.startswith("0") and word != "0":
        return None
    # In pieces, as int refuses words of too many figures.
    filled = "0" * (-len(figures) % PIECE_FIGURES) + figures
    worth = 0
    for at in range(0, len(filled), PIECE_FIGURES):
        worth = worth * PIECE_WORTH + int(filled[at:at + PIECE_FIGURES])
    return -worth if word.startswith("-") else worth


def number_of(word, least, most):
    """The integer from least to most that any value writes just as str does, None if it writes none."""
    value = integer_of(word)
    return value if is_within(value, least, most) else None


class Reader:
    """The words of a text, or of one of its rows; BadText tells the first one that cannot stand."""

    def __init__(self, text, row=0):
        if not isinstance(text, str):
            raise BadText(0, 0)
        self._words = text.split(" ")
        self._row = row
        self._at = 0

    def at_hand(self):
        """The word at hand, None behind the last one."""
        return self._words[self._at] if self._at < len(self._words) else None

    def refuse(self):
        """The word at hand cannot stand, or is missing."""
        raise BadText(self._row, self._at)

    def take(self, worth):
        """Goes on behind the word at hand, and returns its worth; without a worth, None, it cannot stand."""
        if worth is None:
            self.refuse()
        self._at += 1
        return worth

    def integer(self, least, most):
        """The integer from least to most that must be at hand."""
        return self.take(number_of(self.at_hand(), least, most))

    def expect(self, sign):
        """The word at hand must be this sign."""
        self.take(sign if self.at_hand() == sign else None)

    def more(self):
        """Whether a word is at hand that does not part what is read from what comes behind it."""
        return self.at_hand() not in (None, "/", ";")

    def finish(self):
        """No word may be left."""
        if self._at < len(self._words):
            self.refuse()


def read_worths(reader, worth_of):
    """The list of one worth or more, up to a parting sign or the end; a single `-` stands for none."""
    worths = []
    if reader.at_hand() == "-":
        reader.expect("-")
        return worths
    while not worths or reader.more():
        worths.append(reader.take(worth_of(reader.at_hand())))
    return worths


def read_named(reader, worth_of, most=None):
    """The dict of one name or more, ascending, each with the worth behind it, up to a parting sign or the end."""
    worths = {}
    last = ""
    while not worths or reader.more():
        name = reader.at_hand()
        fits = is_name(name) and name > last and len(worths) != most
        last = reader.take(name if fits else None)
        worths[last] = reader.take(worth_of(reader.at_hand()))
    return worths
