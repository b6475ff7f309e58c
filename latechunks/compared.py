"""Rules compared at all rests, by stretches on which no two parts of one rule change sides."""

from math import lcm

from latechunks.checks import is_within
from latechunks.errors import BadRule, BadTotal
from latechunks.papers import Denial, Paper
from latechunks.residues import check_made
from latechunks.rules import By, Rule, check_modulus
from latechunks.turns import first_quotient, lines_of, turns_of

MOST_TOTAL = 10000


class NeverLess(Paper):
    """One rule is never less than another one: the rests at which the stretches of each residue begin."""

    def __init__(self, begins):
        self.begins = begins

    def __eq__(self, other):
        return isinstance(other, NeverLess) and self.begins == other.begins


class Steady(Paper):
    """A chunk never rises by more than 1: the rests at which the stretches of each residue begin."""

    def __init__(self, begins):
        self.begins = begins

    def __eq__(self, other):
        return isinstance(other, Steady) and self.begins == other.begins


class Same(Paper):
    """Two rules tell the same chunks: each of them is never less than the other one."""

    def __init__(self, first, last):
        self.first = first
        self.last = last

    def __eq__(self, other):
        return isinstance(other, Same) and self.first == other.first and self.last == other.last


class Surely(Paper):
    """No list of one rule has more chunks: it is never less than the other one, and one of both is steady."""

    def __init__(self, never, steady):
        self.never = never
        self.steady = steady

    def __eq__(self, other):
        return isinstance(other, Surely) and self.never == other.never and self.steady == other.steady


class Less(Denial):
    """A rest at which the chunk of one rule is less than that of another one."""

    def __init__(self, rest):
        self.rest = rest

    def __eq__(self, other):
        return isinstance(other, Less) and self.rest == other.rest


class Jump(Denial):
    """A rest from which to the next one the chunk rises by more than 1."""

    def __init__(self, rest):
        self.rest = rest

    def __eq__(self, other):
        return isinstance(other, Jump) and self.rest == other.rest


class Other(Denial):
    """A rest at which two rules tell other chunks."""

    def __init__(self, rest):
        self.rest = rest

    def __eq__(self, other):
        return isinstance(other, Other) and self.rest == other.rest


class Counter(Denial):
    """A total for which the list of one rule has more chunks, and the pair of both numbers of chunks."""

    def __init__(self, total, counts):
        self.total = total
        self.counts = counts

    def __eq__(self, other):
        return isinstance(other, Counter) and self.total == other.total and self.counts == other.counts


class Undecided(Denial):
    """It is not known whether one rule always has at most as many chunks; up to this total it has."""

    def __init__(self, upto):
        self.upto = upto

    def __eq__(self, other):
        return isinstance(other, Undecided) and self.upto == other.upto


def never_less(one, other):
    """The NeverLess of two rules, the Less if the chunk of one is less somewhere."""
    modulus = modulus_of(one, other)
    begins = [begins_of(kinds_of(one, other, modulus, residue), modulus, residue) for residue in range(modulus)]
    rest = least_below(lambda left: one(left) - other(left), begins, modulus)
    return NeverLess(tuple(begins)) if rest is None else Less(rest)


def steadiness(rule):
    """The Steady of a rule, the Jump if its chunk rises by more than 1 somewhere."""
    check_made(rule)
    modulus = rule.modulus
    begins = [begins_of(kinds_behind(rule, residue), modulus, residue) for residue in range(modulus)]
    rest = least_below(lambda left: rule(left) + 1 - rule(left + 1), begins, modulus)
    return Steady(tuple(begins)) if rest is None else Jump(rest)


def alike(one, other):
    """The Same of two rules, the Other if they tell other chunks somewhere."""
    first = never_less(one, other)
    last = never_less(other, one)
    rests = [denial.rest for denial in (first, last) if not denial]
    return Other(min([int(rest) for rest in rests])) if rests else Same(first, last)


def surely_fewer(one, other, upto=1000):
    """The Surely of two rules; otherwise the Counter of the least total up to one told, or the Undecided."""
    check_upto(one, other, upto)
    never = never_less(one, other)
    if never:
        for rule in (one, other):
            steady = steadiness(rule)
            if steady:
                return Surely(never, steady)
    counts = list(zip(counts_to(one, upto), counts_to(other, upto)))
    for total, (many, against) in enumerate(counts):
        if many > against:
            return Counter(total, (many, against))
    return Undecided(upto)


def modulus_of(one, other):
    """The common modulus of two rules that are compared."""
    if not isinstance(one, Rule):
        raise BadRule("one")
    if not isinstance(other, Rule):
        raise BadRule("other")
    if isinstance(one, By) or isinstance(other, By):
        raise BadRule("function")
    modulus = lcm(one.modulus, other.modulus)
    check_modulus(modulus)
    return modulus


def check_upto(one, other, upto):
    """Two rules are compared, and their lists up to a total."""
    modulus_of(one, other)
    if not is_within(upto, 0, MOST_TOTAL):
        raise BadTotal(upto)


def kinds_of(one, other, modulus, residue):
    """The lines of the parts of each of two rules at the rests of one residue."""
    return [lines_of(one, modulus, residue), lines_of(other, modulus, residue)]


def kinds_behind(rule, residue):
    """The lines of the parts of a rule at the rests of one residue, and at the rests behind them."""
    return [lines_of(rule, rule.modulus, residue), lines_of(rule, rule.modulus, residue + 1)]


def begins_of(kinds, modulus, residue):
    """The tuple of the ascending rests at which the stretches of one residue begin."""
    first = first_quotient(residue)
    turns = [turn for lines in kinds for turn in turns_of(lines, first)]
    return tuple([modulus * quotient + residue for quotient in sorted(set([first, *turns]))])


def least_below(gap, begins, modulus):
    """The least rest at which a gap is below 0, None if it is nowhere; on each stretch the gap is straight."""
    found = None
    for row in begins:
        rest = first_below(gap, row, modulus)
        if rest is not None and (found is None or rest < found):
            found = rest
    return found


def first_below(gap, row, modulus):
    """The least rest of one residue at which a gap is below 0, None if there is none."""
    for begin, end in zip(row, [*row[1:], None]):
        here = gap(begin)
        if here < 0:
            return begin
        fall = here - gap(begin + modulus)
        if fall > 0:
            rest = begin + modulus * (here // fall + 1)
            if end is None or rest < end:
                return rest
    return None


def counts_to(rule, upto):
    """How many chunks the list of a rule has, for all totals from 0 on up to one."""
    counts = [0]
    for total in range(1, upto + 1):
        counts.append(counts[total - rule(total)] + 1)
    return counts
