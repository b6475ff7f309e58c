"""The parts of rules at the rests of one residue: there each of them is straight, and two of them change sides once."""

from latechunks.rules import Fixed


def first_quotient(residue):
    """The quotient of the least rest with a residue."""
    return 1 if residue == 0 else 0


def lines_of(rule, modulus, residue):
    """The lines of all parts of a rule at the rests modulus * q + residue: each is a pair (rise, start).

    Its size is rise * q + start. The chunk of the rule is always one of its parts: 1 and the rest are parts too.
    """
    lines = [(0, 1), (modulus, residue)]
    for part in rule.parts:
        if isinstance(part, Fixed):
            lines.append((0, part.size))
        else:
            lines.append((part.x * modulus // part.w, (part.x * residue + part.y) // part.w))
    return lines


def changes_of(lines, first):
    """How each two lines change sides, at the first quotient or behind it: a list of pairs of quotients.

    At the one, and ahead of it, one line is the lesser one; at the other, and behind it, it is the greater one.
    """
    changes = []
    for rise, start in lines:
        for other_rise, other_start in lines:
            apart = rise - other_rise
            if apart > 0:
                gap = other_start - start
                ahead = -(-gap // apart) - 1
                if ahead >= first:
                    changes.append((ahead, gap // apart + 1))
    return changes


def turns_of(lines, first):
    """The ascending quotients from which on one of two lines is the greater one, and was the lesser one."""
    return sorted(set([behind for _, behind in changes_of(lines, first)]))
