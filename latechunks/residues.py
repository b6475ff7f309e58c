"""The sizes of a rule at all rests, told by residues: at the rests of one residue they are straight in pieces."""

from latechunks.errors import BadRule
from latechunks.rules import By, Rule
from latechunks.turns import first_quotient, lines_of, turns_of


def pieces(rule):
    """For each residue the tuple of the pieces (begin, rise, start) of the sizes at its rests."""
    check_made(rule)
    return [pieces_at(rule, residue) for residue in range(rule.modulus)]


def check_made(rule):
    """All is known of the rule: no function is within it."""
    if not isinstance(rule, Rule):
        raise BadRule("rule")
    if isinstance(rule, By):
        raise BadRule("function")


def pieces_at(rule, residue):
    """The tuple of the pieces of the sizes at the rests of one residue."""
    turns = turns_at(rule, residue)
    begin = first_quotient(residue)
    found = []
    while begin is not None:
        rise, start = line_from(rule, residue, begin)
        found.append((begin, rise, start))
        begin = first_off(rule, residue, found[-1], turns)
    return tuple(found)


def turns_at(rule, residue):
    """The quotients at which parts of the rule change sides at the rests of one residue."""
    return turns_of(lines_of(rule, rule.modulus, residue), first_quotient(residue))


def size_at(rule, residue, quotient):
    """The chunk of the rest with this residue and quotient."""
    return rule(rule.modulus * quotient + residue)


def line_from(rule, residue, begin):
    """The pair (rise, start) of the line through the sizes at two quotients, begin and the next one."""
    size = size_at(rule, residue, begin)
    rise = size_at(rule, residue, begin + 1) - size
    return rise, size - rise * begin


def first_off(rule, residue, piece, turns):
    """The first quotient from the begin of a piece on at which the size is not as it tells, None if there is none."""
    begin, rise, start = piece
    # From each turn to the next one the sizes are straight: those at two quotients tell all of them.
    places = [begin, *[turn for turn in turns if turn > begin]]
    for place in places:
        for quotient in (place, place + 1):
            if size_at(rule, residue, quotient) != rise * quotient + start:
                return quotient
    return None
