"""Exact fractions."""

from math import gcd

from latechunks.checks import is_integer
from latechunks.errors import BadRatio, BadText
from latechunks.words import integer_of, integer_text

MOST_FIGURES = 4000


class Ratio:
    """An exact fraction in least terms; it never changes."""

    def __init__(self, over, under=1):
        if not is_integer(over):
            raise BadRatio(over)
        if not is_integer(under) or under == 0:
            raise BadRatio(under)
        common = gcd(over, under) if under > 0 else -gcd(over, under)
        self.over = over // common
        self.under = under // common

    @staticmethod
    def of(value):
        """The value itself if it is a Ratio, the Ratio of an integer."""
        return value if isinstance(value, Ratio) else Ratio(value)

    @staticmethod
    def greatest(values):
        """The greatest one of a list or tuple of Ratios and integers."""
        if not isinstance(values, (list, tuple)) or len(values) == 0:
            raise BadRatio(values)
        ratios = [Ratio.of(value) for value in values]
        found = ratios[0]
        for ratio in ratios:
            if found < ratio:
                found = ratio
        return found

    @classmethod
    def read(cls, text):
        """The Ratio of which str tells this text."""
        value = worth_of(text)
        if value is None:
            raise BadText(0, 0)
        return value

    def __add__(self, other):
        added = Ratio.of(other)
        return Ratio(self.over * added.under + added.over * self.under, self.under * added.under)

    def __radd__(self, other):
        return self + other

    def __sub__(self, other):
        taken = Ratio.of(other)
        return Ratio(self.over * taken.under - taken.over * self.under, self.under * taken.under)

    def __rsub__(self, other):
        return Ratio.of(other) - self

    def __mul__(self, other):
        factor = Ratio.of(other)
        return Ratio(self.over * factor.over, self.under * factor.under)

    def __rmul__(self, other):
        return self * other

    def __neg__(self):
        return Ratio(-self.over, self.under)

    def __floordiv__(self, other):
        step = Ratio.of(other)
        if step.over <= 0:
            raise BadRatio(other)
        return self.over * step.under // (self.under * step.over)

    def __rfloordiv__(self, other):
        # What is wrong on the right is told first, also if the left is no number.
        if self.over <= 0:
            raise BadRatio(self)
        return Ratio.of(other) // self

    def __mod__(self, other):
        return self - Ratio.of(other) * (self // other)

    def __rmod__(self, other):
        if self.over <= 0:
            raise BadRatio(self)
        return Ratio.of(other) % self

    def __lt__(self, other):
        against = Ratio.of(other)
        return self.over * against.under < against.over * self.under

    def __gt__(self, other):
        return Ratio.of(other) < self

    def __le__(self, other):
        return not self > other

    def __ge__(self, other):
        return not self < other

    def __eq__(self, other):
        if is_integer(other):
            return self.under == 1 and self.over == other
        return isinstance(other, Ratio) and self.over == other.over and self.under == other.under

    def __bool__(self):
        return bool(self.over)

    def __str__(self):
        if self.under == 1:
            return str(integer_text(self.over))
        return f"{integer_text(self.over)}/{integer_text(self.under)}"

    def floor(self):
        """The greatest integer that is at most this."""
        return self.over // self.under

    def ceiling(self):
        """The least integer that is at least this."""
        return -(-self.over // self.under)


def gap_between(one, other):
    """An integer that is below 0, 0, or above 0 as one number is less than another one, equal to it, or greater."""
    ratio = Ratio.of(one)
    against = Ratio.of(other)
    return ratio.over * against.under - against.over * ratio.under


def is_number(value):
    """Whether any value is an integer or a Ratio."""
    return is_integer(value) or isinstance(value, Ratio)


def ratio_of(word):
    """The Ratio, of any length, that any value writes just as str does, None if it writes none."""
    if not isinstance(word, str):
        return None
    over_word, stroke, under_word = word.partition("/")
    over = integer_of(over_word)
    if over is None or not stroke:
        return None if over is None else Ratio(over)
    under = integer_of(under_word)
    if under is None or under < 2 or gcd(over, under) != 1:
        return None
    return Ratio(over, under)


def worth_of(word):
    """The Ratio that any value writes just as str does, None if it writes none or one of too many figures."""
    value = ratio_of(word)
    return value if value is not None and is_readable(word) else None


def is_readable(text):
    """Whether no side of the stroke has too many figures."""
    over_word, _, under_word = text.partition("/")
    return len(over_word.removeprefix("-")) <= MOST_FIGURES and len(under_word) <= MOST_FIGURES
