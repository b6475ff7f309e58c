"""The pieces of rules, beside their sizes at all rests to some hundreds and far away."""

from random import Random

from latechunks.errors import BadRule
from latechunks.residues import pieces
from latechunks.rules import By, Divided, Fixed, Greater, Lesser, Rule
from tests.helper import Case, a_function, but

GREAT = 10 ** 29


def drawn_part(random, far=False):
    if random.randrange(3) == 0:
        return Fixed(random.choice([1, 2, 3, 7, 20, 60]) if not far else random.choice([1, 10 ** 6, GREAT - 1, GREAT]))
    w = random.choice([1, 2, 3, 4, 6, 8, 12, 24])
    return Divided(random.choice([0, 1, 1, 2, 3, w, min(24, w + 1), 24]), random.choice([0, 1, w - 1, -5, 9, -40, 60]), w)


def drawn_rule(random, many, far=False):
    """Any rule of so many parts, joined in any way."""
    rules = [drawn_part(random, far) for _ in range(many)]
    while len(rules) > 1:
        one = rules.pop(random.randrange(len(rules)))
        other = rules.pop(random.randrange(len(rules)))
        rules.append(random.choice((Lesser, Greater))(one, other))
    return rules[0]


def drawn_rules(seed, many, far=False):
    random = Random(seed)
    return [drawn_rule(random, 1 + at % 6, far) for at in range(many)]


def told_by_sizes(rule, residue, many):
    """The pieces of one residue as far as the sizes at so many rests tell them."""
    first = 1 if residue == 0 else 0
    sizes = {q: rule(rule.modulus * q + residue) for q in range(first, first + many)}
    found, begin = [], first
    while begin is not None and begin + 1 in sizes:
        rise = sizes[begin + 1] - sizes[begin]
        start = sizes[begin] - rise * begin
        found.append((begin, rise, start))
        begin = next((q for q in sizes if q > begin and sizes[q] != rise * q + start), None)
    return found


def last_turn(rule):
    return max(row[-1][0] for row in pieces(rule))


class PiecesTest(Case):
    def test_drawn_rules(self):
        turns = set()
        for rule in drawn_rules(1, 240):
            told = pieces(rule)
            self.assertEqual((type(told), len(told)), (list, rule.modulus))
            for residue, row in enumerate(told):
                self.assertIs(type(row), tuple)
                expected = told_by_sizes(rule, residue, 150)
                self.assertEqual(list(row[:len(expected)]), expected)
                self.all_along(rule, residue, row)
                turns.add(len(row))
        self.assertTrue({1, 2, 3, 4} <= turns)

    def all_along(self, rule, residue, row):
        """Each piece tells the sizes from its begin to the begin of the next one, which is off it."""
        for piece in row:
            self.assertEqual((type(piece), [type(part) for part in piece]), (tuple, [int] * 3))
        ends = [piece[0] for piece in row[1:]] + [None]
        self.assertEqual(row[0][0], 1 if residue == 0 else 0)
        for (begin, rise, start), end in zip(row, ends):
            last = begin + 10 ** 40 if end is None else end - 1
            self.assertTrue(last > begin)
            for q in {begin, begin + 1, last, last - 1, (begin + last) // 2, (begin + 9 * last) // 10}:
                self.assertEqual(rule(rule.modulus * q + residue), rise * q + start)
            if end is not None:
                self.assertNotEqual(rule(rule.modulus * end + residue), rise * end + start)

    def test_turns_far_away(self):
        far = 0
        for rule in drawn_rules(2, 200, far=True):
            for residue, row in enumerate(pieces(rule)):
                self.all_along(rule, residue, row)
                far = max(far, row[-1][0])
        self.assertTrue(far > 10 ** 26)

    def test_by_hand(self):
        self.assertEqual(pieces(Fixed(3)), [((1, 1, 0), (4, 0, 3))])
        self.assertEqual(pieces(Fixed(1)), [((1, 0, 1),)])
        # Sizes at 1, 2, .. are 1, 2, 2, 2: the first two lie on one line, that goes on no further.
        self.assertEqual(pieces(rule=Fixed(2)), [((1, 1, 0), (3, 0, 2))])
        self.assertEqual(pieces(Divided(0, 0, 2)), [((1, 0, 1),), ((0, 0, 1),)])
        # 2 R // 3 at 3 q, 3 q + 1, 3 q + 2.
        self.assertEqual(pieces(Divided(2, 0, 3)), [((1, 2, 0),), ((0, 1, 1), (2, 2, 0)), ((0, 2, 1),)])
        self.assertEqual(pieces(Divided(2, 0, 1)), [((1, 1, 0),)])
        # R - 10: at 1 to 11 a single item, at 12 two.
        self.assertEqual(pieces(Divided(1, -10, 1)), [((1, 0, 1), (12, 1, -10))])
        self.assertEqual(pieces(Divided(1, -1, 2)), [((1, 0, 1), (3, 1, -1)), ((0, 0, 1), (2, 1, 0))])
        # The half up to 10 ** 20, then 10 ** 20.
        half = 10 ** 20
        told = [((1, 1, 0), (half + 1, 0, half)), ((0, 1, 1), (half, 0, half))]
        self.assertEqual(pieces(Divided(1, 1, 2) & Fixed(half)), told)

    def test_a_piece_between_two_lines(self):
        # Sizes at 4 q + 1 are 1, 4, 4, 4: no part of the rule goes through the first two.
        rule = Fixed(4)
        self.assertEqual([rule(1), rule(5), rule(9)], [1, 4, 4])
        told = pieces(rule & Divided(24, 0, 4))
        self.assertEqual(told[1], ((0, 3, 1), (2, 0, 4)))

    def test_many_residues(self):
        rule = (Divided(1, 0, 23) | Divided(1, 4, 19)) & Divided(3, 1, 11)
        told = pieces(rule)
        self.assertEqual(len(told), 4807)
        for residue in range(0, 4807, 97):
            self.all_along(rule, residue, told[residue])

    def test_wrong_arguments(self):
        for value in but(Fixed, Divided, Lesser, Greater, By):
            self.raises(BadRule("rule"), pieces, value)
            self.raises(BadRule("rule"), pieces, rule=value)
        self.raises(BadRule("function"), pieces, By(a_function))
        self.assertTrue(isinstance(Fixed(1), Rule))
