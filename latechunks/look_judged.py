"""Looks at papers that judge rules for all lengths of loops."""

from latechunks.checks import is_integer, is_within
from latechunks.judged import Beyond, Bound, Endless, Within, check_judged, greatest_late, growth_of, late_at
from latechunks.ratios import Ratio
from latechunks.residues import first_off, line_from, turns_at
from latechunks.settings import check_limit
from latechunks.turns import first_quotient


def shows_bound(rule, setting, value):
    """Whether any value is a right Bound; its rest need not be the least one."""
    check_judged(rule, setting)
    if not isinstance(value, Bound) or not is_late_at(rule, setting, value.rest, value.late):
        return False
    found = greatest_late(rule, setting)
    return isinstance(found, Bound) and found.late == value.late


def shows_endless(rule, setting, value):
    """Whether any value is a right Endless; its residue need not be the least one, nor its begin that of a piece."""
    check_judged(rule, setting)
    if not isinstance(value, Endless) or not is_within(value.residue, 0, rule.modulus - 1):
        return False
    if not is_integer(value.begin) or value.begin < first_quotient(value.residue):
        return False
    rise, start = line_from(rule, value.residue, value.begin)
    off = first_off(rule, value.residue, (value.begin, rise, start), turns_at(rule, value.residue))
    return off is None and growth_of(rule, setting, rise) > 0


def shows_within(rule, setting, limit, value):
    """Whether any value is a right Within; its pieces can be parted."""
    check_judged(rule, setting)
    check_limit(limit)
    if not isinstance(value, Within) or not is_table(rule, value.table):
        return False
    found = greatest_late(rule, setting)
    return isinstance(found, Bound) and found.late <= limit


def shows_beyond(rule, setting, limit, value):
    """Whether any value is a right Beyond; its rest need not be the least one."""
    check_judged(rule, setting)
    check_limit(limit)
    return isinstance(value, Beyond) and is_late_at(rule, setting, value.rest, value.late) and value.late > limit


def is_late_at(rule, setting, rest, late):
    """Whether any two values are a rest and late there."""
    if not is_integer(rest) or rest < 1 or not isinstance(late, Ratio):
        return False
    return late == late_at(rule, setting, rest)


def is_table(rule, table):
    """Whether any value is a list of tuples of right pieces, one for each residue."""
    if not isinstance(table, list) or len(table) != rule.modulus:
        return False
    return all([is_row(rule, residue, row) for residue, row in enumerate(table)])


def is_row(rule, residue, row):
    """Whether any value is a tuple of pieces that tell the sizes at all rests of one residue."""
    if not isinstance(row, tuple) or len(row) == 0 or not all([is_piece(piece) for piece in row]):
        return False
    begins = [begin for begin, _, _ in row]
    if begins[0] != first_quotient(residue) or not all([one < other for one, other in zip(begins, begins[1:])]):
        return False
    turns = turns_at(rule, residue)
    offs = [first_off(rule, residue, piece, turns) for piece in row]
    # A piece must be right up to the begin of the next one, the last one for ever.
    return offs[-1] is None and all([off is None or off >= begin for off, begin in zip(offs, begins[1:])])


def is_piece(piece):
    """Whether any value is a tuple of three integers."""
    return isinstance(piece, tuple) and len(piece) == 3 and all([is_integer(part) for part in piece])
