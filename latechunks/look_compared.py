"""Looks at papers that compare rules. Nothing is searched: the stretches are told, and each is straight."""

from latechunks.checks import is_integer, is_within
from latechunks.compared import Counter, Jump, Less, NeverLess, Other, Same, Steady, Surely
from latechunks.compared import check_upto, kinds_behind, kinds_of, modulus_of
from latechunks.cutting import count_by
from latechunks.residues import check_made
from latechunks.turns import changes_of, first_quotient


def shows_never_less(one, other, value):
    """Whether any value is a right NeverLess or a right Less."""
    modulus_of(one, other)
    if isinstance(value, Less):
        return is_rest(value.rest) and one(value.rest) < other(value.rest)
    return is_never_less(one, other, value)


def shows_steady(rule, value):
    """Whether any value is a right Steady or a right Jump."""
    check_made(rule)
    if isinstance(value, Jump):
        return is_rest(value.rest) and rule(value.rest + 1) > rule(value.rest) + 1
    return is_steady(rule, value)


def shows_alike(one, other, value):
    """Whether any value is a right Same or a right Other."""
    modulus_of(one, other)
    if isinstance(value, Other):
        return is_rest(value.rest) and one(value.rest) != other(value.rest)
    if not isinstance(value, Same):
        return False
    return is_never_less(one, other, value.first) and is_never_less(other, one, value.last)


def shows_fewer(one, other, value, upto=1000):
    """Whether any value is a right Surely or a right Counter of a total up to one."""
    check_upto(one, other, upto)
    if isinstance(value, Counter):
        return is_within(value.total, 1, upto) and are_counts(one, other, value.total, value.counts)
    if not isinstance(value, Surely) or not is_never_less(one, other, value.never):
        return False
    return is_steady(one, value.steady) or is_steady(other, value.steady)


def is_never_less(one, other, value):
    """Whether any value is a right NeverLess of two rules."""
    if not isinstance(value, NeverLess):
        return False
    modulus = modulus_of(one, other)
    kinds = [kinds_of(one, other, modulus, residue) for residue in range(modulus)]
    return is_nowhere_below(lambda left: one(left) - other(left), kinds, value.begins)


def is_steady(rule, value):
    """Whether any value is a right Steady of a rule."""
    if not isinstance(value, Steady):
        return False
    kinds = [kinds_behind(rule, residue) for residue in range(rule.modulus)]
    return is_nowhere_below(lambda left: rule(left) + 1 - rule(left + 1), kinds, value.begins)


def is_nowhere_below(gap, kinds, begins):
    """Whether any value tells the stretches of all residues, and a gap is below 0 on none of them.

    kinds has, for each residue, lists of lines: on a stretch no two lines of one list change sides.
    """
    modulus = len(kinds)
    if not isinstance(begins, tuple) or len(begins) != modulus:
        return False
    for residue, row in enumerate(begins):
        if not are_begins(row, modulus, residue):
            return False
        if not all([are_parted(lines, modulus, residue, row) for lines in kinds[residue]]):
            return False
        ends = [begin - modulus for begin in row[1:]]
        if not all([is_kept(gap, modulus, begin, end) for begin, end in zip(row, [*ends, None])]):
            return False
    return True


def are_begins(row, modulus, residue):
    """Whether any value is a tuple of ascending rests with a residue, from the least one on."""
    if not isinstance(row, tuple) or len(row) == 0 or not all([is_integer(begin) for begin in row]):
        return False
    if row[0] != modulus * first_quotient(residue) + residue or not all([begin % modulus == residue for begin in row]):
        return False
    return all([begin < behind for begin, behind in zip(row, row[1:])])


def are_parted(lines, modulus, residue, row):
    """Whether on no stretch between these begins two lines change sides."""
    begins = {begin // modulus: True for begin in row}
    # At most one quotient lies between both sides, where two lines are equal: one of the next two must be a begin.
    changes = changes_of(lines, first_quotient(residue))
    return all([ahead + 1 in begins or behind in begins for ahead, behind in changes])


def is_kept(gap, modulus, begin, end):
    """Whether a gap that is straight is nowhere below 0 from one rest to another one, or for ever."""
    here = gap(begin)
    there = gap(begin + modulus) - here if end is None else gap(end)
    return here >= 0 and there >= 0


def are_counts(one, other, total, counts):
    """Whether any value is the pair of the numbers of chunks for a total, the first one the greater."""
    if not isinstance(counts, tuple) or len(counts) != 2 or not all([is_integer(count) for count in counts]):
        return False
    told = (count_by(one, total), count_by(other, total))
    return counts == told and told[0] > told[1]


def is_rest(value):
    """Whether any value is a rest."""
    return is_integer(value) and value >= 1
