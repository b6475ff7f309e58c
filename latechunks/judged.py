"""Rules judged for all lengths of loops: how late their lists can be at all rests."""

from latechunks.papers import Denial, Paper
from latechunks.residues import check_made, pieces
from latechunks.settings import check_limit, check_unpaid


class Bound(Paper):
    """The greatest late that a rule has at any rest, and a rest that has it."""

    def __init__(self, late, rest):
        self.late = late
        self.rest = rest

    def __eq__(self, other):
        return isinstance(other, Bound) and self.late == other.late and self.rest == other.rest


class Endless(Denial):
    """A residue on whose rests late grows without end, and the quotient at which it begins to grow so."""

    def __init__(self, residue, begin):
        self.residue = residue
        self.begin = begin

    def __eq__(self, other):
        return isinstance(other, Endless) and self.residue == other.residue and self.begin == other.begin


class Within(Paper):
    """Late is at most the limit at all rests; the table tells the pieces of the sizes."""

    def __init__(self, table):
        self.table = table

    def __eq__(self, other):
        return isinstance(other, Within) and self.table == other.table


class Beyond(Denial):
    """A rest at which late is more than the limit, and late there."""

    def __init__(self, rest, late):
        self.rest = rest
        self.late = late

    def __eq__(self, other):
        return isinstance(other, Beyond) and self.rest == other.rest and self.late == other.late


def greatest_late(rule, setting):
    """The Bound of a rule, the Endless if its late has none."""
    check_judged(rule, setting)
    table = pieces(rule)
    for residue, row in enumerate(table):
        begin, rise, _ = row[-1]
        if growth_of(rule, setting, rise) > 0:
            return Endless(residue, begin)
    found = None
    for residue, row in enumerate(table):
        for rest in peaks_of(rule, setting, residue, row):
            late = late_at(rule, setting, rest)
            if found is None or late > found.late or (late == found.late and rest < found.rest):
                found = Bound(late, rest)
    return found


def within(rule, setting, limit):
    """The Within of a rule, the Beyond if its late is more than the limit somewhere."""
    check_judged(rule, setting)
    check_limit(limit)
    table = pieces(rule)
    firsts = [first_beyond(rule, setting, limit, residue, row) for residue, row in enumerate(table)]
    rests = [first for first in firsts if first is not None]
    if not rests:
        return Within(table)
    rest = min([int(first) for first in rests])
    return Beyond(rest, late_at(rule, setting, rest))


def check_judged(rule, setting):
    """A rule without functions is judged in a setting without a fee."""
    check_made(rule)
    check_unpaid(setting)


def late_at(rule, setting, rest):
    """Late of the chunk of a rest."""
    return setting.late_of(rest, 0, rule(rest))


def growth_of(rule, setting, rise):
    """How much late grows from a rest to the next one of its residue, on a piece with this rise."""
    by_size, by_rest = setting.straight()
    return by_size * rise - by_rest * rule.modulus


def ends_of(row):
    """The pairs of each piece of one residue and its last quotient, None for the last piece."""
    ends = [begin - 1 for begin, _, _ in row[1:]]
    return list(zip(row, [*ends, None]))


def peaks_of(rule, setting, residue, row):
    """For each piece of one residue the least rest of its greatest late; late grows on none of them without end."""
    rests = []
    for (begin, rise, _), end in ends_of(row):
        quotient = end if growth_of(rule, setting, rise) > 0 else begin
        rests.append(rule.modulus * quotient + residue)
    return rests


def first_beyond(rule, setting, limit, residue, row):
    """The least rest of one residue at which late is more than the limit, None if there is none."""
    for (begin, rise, _), end in ends_of(row):
        left = limit - late_at(rule, setting, rule.modulus * begin + residue)
        growth = growth_of(rule, setting, rise)
        quotient = None
        if left < 0:
            quotient = begin
        elif growth > 0:
            quotient = begin + left // growth + 1
        if quotient is not None and (end is None or quotient <= end):
            return rule.modulus * quotient + residue
    return None
