"""Rules: which size is cut next, told for each rest."""

from math import lcm

from latechunks.checks import is_integer, is_size
from latechunks.chunks import Chunks, check_total
from latechunks.cutting import sizes_by
from latechunks.errors import BadRest, BadRule, BadSize, LateError, TooMany
from latechunks.rulewords import MOST_PARTS, is_factor, is_start, read_rule
from latechunks.words import Reader

MOST_RESIDUES = 5000


# Each class repeats what all rules have: methods that are told of a class stand in the body of that class.
class Rule:
    """The base of all rules; it is not made itself, and each class below it has its own wish."""

    @staticmethod
    def read(text):
        """The rule of which str tells this text."""
        reader = Reader(text)
        told = read_rule(reader)
        reader.finish()
        return rule_of(told)

    def __call__(self, rest):
        return chunk_for(rest, self.wish(rest))

    def wish(self, rest):
        """The size that is wished for a rest."""
        raise NotImplementedError("a rule has a wish of its own")

    def list_for(self, total):
        """The Chunks that the rule cuts of so many items."""
        return list_by(self, total)

    def walk(self, total):
        """The pairs of the rest and the chunk of the list of so many items."""
        yield from steps_by(self, total)


class Fixed(Rule):
    """The rule that always wishes one size."""

    def __init__(self, size):
        if not is_size(size):
            raise BadSize(size)
        self.size = size
        self.parts = (self,)
        self.modulus = 1

    def __call__(self, rest):
        return chunk_for(rest, self.wish(rest))

    def wish(self, rest):
        """The size that is wished for a rest."""
        check_rest(rest)
        return self.size

    def list_for(self, total):
        """The Chunks that the rule cuts of so many items."""
        return list_by(self, total)

    def walk(self, total):
        """The pairs of the rest and the chunk of the list of so many items."""
        yield from steps_by(self, total)

    def __and__(self, other):
        return Lesser(self, other)

    def __or__(self, other):
        return Greater(self, other)

    def __eq__(self, other):
        return isinstance(other, Fixed) and self.size == other.size

    def __str__(self):
        return f"fixed {self.size}"


class Divided(Rule):
    """The rule that wishes a whole quotient."""

    def __init__(self, x, y, w):
        if not is_factor(x, 0):
            raise BadRule("x")
        if not is_start(y):
            raise BadRule("y")
        if not is_factor(w, 1):
            raise BadRule("w")
        self.x = x
        self.y = y
        self.w = w
        self.parts = (self,)
        self.modulus = w

    @staticmethod
    def up(w):
        """The rule that wishes the w-th part of the rest, rounded up."""
        if not is_factor(w, 1):
            raise BadRule("w")
        return Divided(1, w - 1, w)

    def __call__(self, rest):
        return chunk_for(rest, self.wish(rest))

    def wish(self, rest):
        """The size that is wished for a rest."""
        check_rest(rest)
        return (self.x * rest + self.y) // self.w

    def list_for(self, total):
        """The Chunks that the rule cuts of so many items."""
        return list_by(self, total)

    def walk(self, total):
        """The pairs of the rest and the chunk of the list of so many items."""
        yield from steps_by(self, total)

    def __and__(self, other):
        return Lesser(self, other)

    def __or__(self, other):
        return Greater(self, other)

    def __eq__(self, other):
        return isinstance(other, Divided) and self.x == other.x and self.y == other.y and self.w == other.w

    def __str__(self):
        return f"divided {self.x} {self.y} {self.w}"


class Lesser(Rule):
    """The rule that wishes the lesser one of the wishes of two rules."""

    def __init__(self, one, other):
        check_joined(one, other)
        self.one = one
        self.other = other
        self.parts = one.parts + other.parts
        self.modulus = lcm(one.modulus, other.modulus)

    def __call__(self, rest):
        return chunk_for(rest, self.wish(rest))

    def wish(self, rest):
        """The size that is wished for a rest."""
        one = self.one.wish(rest)
        other = self.other.wish(rest)
        return one if one < other else other

    def list_for(self, total):
        """The Chunks that the rule cuts of so many items."""
        return list_by(self, total)

    def walk(self, total):
        """The pairs of the rest and the chunk of the list of so many items."""
        yield from steps_by(self, total)

    def __and__(self, other):
        return Lesser(self, other)

    def __or__(self, other):
        return Greater(self, other)

    def __eq__(self, other):
        return isinstance(other, Lesser) and self.one == other.one and self.other == other.other

    def __str__(self):
        return f"( {self.one} & {self.other} )"


class Greater(Rule):
    """The rule that wishes the greater one of the wishes of two rules."""

    def __init__(self, one, other):
        check_joined(one, other)
        self.one = one
        self.other = other
        self.parts = one.parts + other.parts
        self.modulus = lcm(one.modulus, other.modulus)

    def __call__(self, rest):
        return chunk_for(rest, self.wish(rest))

    def wish(self, rest):
        """The size that is wished for a rest."""
        one = self.one.wish(rest)
        other = self.other.wish(rest)
        return one if one > other else other

    def list_for(self, total):
        """The Chunks that the rule cuts of so many items."""
        return list_by(self, total)

    def walk(self, total):
        """The pairs of the rest and the chunk of the list of so many items."""
        yield from steps_by(self, total)

    def __and__(self, other):
        return Lesser(self, other)

    def __or__(self, other):
        return Greater(self, other)

    def __eq__(self, other):
        return isinstance(other, Greater) and self.one == other.one and self.other == other.other

    def __str__(self):
        return f"( {self.one} | {self.other} )"


class By(Rule):
    """The rule that wishes what a function tells; nothing is known of it but what it tells."""

    def __init__(self, function):
        self.function = function
        self.parts = ()
        self.modulus = 1

    def __call__(self, rest):
        return chunk_for(rest, self.wish(rest))

    def wish(self, rest):
        """The size that is wished for a rest."""
        check_rest(rest)
        function = self.function
        try:
            told = function(rest)
        except LateError as error:
            raise BadRule("function") from error
        if not is_integer(told):
            raise BadRule("wish")
        return told

    def list_for(self, total):
        """The Chunks that the rule cuts of so many items."""
        return list_by(self, total)

    def walk(self, total):
        """The pairs of the rest and the chunk of the list of so many items."""
        yield from steps_by(self, total)

    def __and__(self, other):
        raise BadRule("other")

    def __or__(self, other):
        raise BadRule("other")

    def __eq__(self, other):
        return isinstance(other, By) and self.function == other.function

    def __str__(self):
        return "by"


def check_rest(rest):
    """What is left is a number of items."""
    if not is_integer(rest) or rest < 1:
        raise BadRest(rest)


def check_joined(one, other):
    """Both are rules that can be joined, and together they do not have too much in them."""
    if not isinstance(one, (Fixed, Divided, Lesser, Greater)):
        raise BadRule("one")
    if not isinstance(other, (Fixed, Divided, Lesser, Greater)):
        raise BadRule("other")
    if len(one.parts) + len(other.parts) > MOST_PARTS:
        raise TooMany("parts", MOST_PARTS)
    check_modulus(lcm(one.modulus, other.modulus))


def check_modulus(modulus):
    """There are not too many residues."""
    if modulus > MOST_RESIDUES:
        raise TooMany("residues", MOST_RESIDUES)


def chunk_for(rest, wish):
    """The chunk that is cut of a rest if this is wished."""
    if wish < 1:
        return 1
    return rest if wish > rest else wish


def list_by(rule, total):
    """The Chunks that a rule cuts of so many items."""
    check_total(total)
    return Chunks.of(sizes_by(rule, total, 0))


def steps_by(rule, total):
    """The pairs of the rest and the chunk that a rule cuts of so many items."""
    check_total(total)
    left = total
    while left > 0:
        size = rule(left)
        yield left, size
        left = left - size


def rule_of(told):
    """The rule of which the words told this, in order: parts, and each sign behind what it joins."""
    rules = []
    for item in told:
        if item == "&" or item == "|":
            other = rules.pop()
            one = rules.pop()
            rules.append(one & other if item == "&" else one | other)
        else:
            rules.append(Fixed(*item) if len(item) == 1 else Divided(*item))
    return rules[0]
