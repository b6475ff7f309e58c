"""Rules compared at all rests, beside their sizes at the rests up to all turns and far away."""

from math import lcm
from random import Random

from latechunks.compared import (Counter, Jump, Less, NeverLess, Other, Same, Steady, Surely, Undecided, alike, never_less,
                                 steadiness, surely_fewer)
from latechunks.errors import BadRule, BadTotal, TooMany
from latechunks.look_compared import shows_alike, shows_fewer, shows_never_less, shows_steady
from latechunks.papers import Denial
from latechunks.ratios import Ratio
from latechunks.rules import By, Divided, Fixed, Greater, Lesser
from tests.helper import Case, a_function, but, everything
from tests.test_residues import GREAT, drawn_rules
from tests.test_settings import integers_but

FAR = 2500
HALF, THIRD, WILD = Divided(1, 1, 2), Divided(1, 2, 3), Divided(5, -20, 3)


def parts_at(rule, rest):
    """What the parts of a rule tell at a rest: 1 and the rest itself are parts too."""
    return [1, rest] + [part.size if isinstance(part, Fixed) else (part.x * rest + part.y) // part.w for part in rule.parts]


def sizes_to(rule, many):
    return [rule(rest) for rest in range(1, many + 1)]


def first_rest(wanted, many):
    return next((rest for rest in range(1, many + 1) if wanted(rest)), None)


def no_two_change_sides(rule, rests):
    """Whether of each two parts one is at none of these rests the lesser one."""
    rows = list(zip(*[parts_at(rule, rest) for rest in rests]))
    for one in rows:
        for other in rows:
            if any(x < y for x, y in zip(one, other)) and any(x > y for x, y in zip(one, other)):
                return False
    return True


def stretches_of(row, modulus, many=12):
    """The rests of the stretches of one residue; of long ones, and of the last one, some at the ends, and far away."""
    for begin, end in zip(row, row[1:]):
        rests = range(begin, end, modulus)
        yield rests if end - begin < FAR * modulus else [*rests[:many], *rests[-many:]]
    last = row[-1]
    yield [*range(last, last + many * modulus, modulus), last + modulus * 10 ** 40]


def pairs(seed, many):
    """Pairs of rules whose parts do not change sides any more behind some thousands of rests."""
    rules = drawn_rules(seed, many * 4)
    random = Random(seed)
    found = 0
    while found < many:
        one, other = random.choice(rules), random.choice(rules)
        if random.randrange(4) == 0 and len(one.parts) + len(other.parts) <= 6:
            other = random.choice((one & other, one | other))
        modulus = lcm(one.modulus, other.modulus)
        if modulus <= 48 and last_begin(one, other, modulus) + 4 * modulus < FAR:
            found += 1
            yield one, other


def last_begin(one, other, modulus):
    """The last rest at which two parts of one rule have changed sides."""
    return max([begin for row in begins_by_hand([one, other], modulus) for begin in row])


def begins_by_hand(rules, modulus, behind=(0,)):
    """For each residue the least rest, and those at which two parts of one rule have changed sides just before."""
    begins = []
    for residue in range(modulus):
        first = residue or modulus
        row = {first}
        lines = []
        for rule in rules:
            for shift in behind:
                here = parts_at(rule, first + shift)
                there = parts_at(rule, first + shift + modulus)
                lines.append([(start, next_one - start) for start, next_one in zip(here, there)])
        for kind in lines:
            for start, rise in kind:
                for other_start, other_rise in kind:
                    if rise > other_rise and start < other_start:
                        row.add(first + modulus * ((other_start - start) // (rise - other_rise) + 1))
        begins.append(tuple(sorted(row)))
    return begins


class StretchesCase(Case):
    def stretches(self, kind, told, rules, modulus, shifts=(0,)):
        self.assertEqual((type(told), type(told.begins), len(told.begins)), (kind, tuple, modulus))
        for residue, row in enumerate(told.begins):
            self.assertEqual((type(row), row[0], row), (tuple, residue or modulus, tuple(sorted(set(row)))))
            self.assertTrue(all(type(begin) is int and begin % modulus == residue for begin in row))
            for rests in stretches_of(row, modulus):
                for rule in rules:
                    for shift in shifts:
                        self.assertTrue(no_two_change_sides(rule, [rest + shift for rest in rests]))


class NeverLessTest(StretchesCase):
    def test_drawn_rules(self):
        kinds = []
        for one, other in pairs(1, 160):
            told = never_less(one, other)
            kinds.append(type(told))
            rest = first_rest(lambda rest: one(rest) < other(rest), FAR)
            if rest is None:
                self.stretches(NeverLess, told, [one, other], lcm(one.modulus, other.modulus))
            else:
                self.assertEqual((told, type(told.rest)), (Less(rest), int))
            self.assertEqual(never_less(other=other, one=one), told)
        self.assertTrue(kinds.count(NeverLess) > 20 and kinds.count(Less) > 20)

    def test_far_rests(self):
        late_half = HALF & Fixed(GREAT)
        # Both are the same up to 2 * GREAT, then the half goes on to rise.
        self.assertEqual(never_less(late_half, HALF), Less(2 * GREAT + 1))
        told = never_less(HALF, late_half)
        self.stretches(NeverLess, told, [HALF, late_half], 2)
        self.assertEqual(never_less(Divided(1, 0, 3), Fixed(GREAT) & HALF), Less(3))
        self.assertEqual(never_less(Divided(2, -1000, 1), HALF | Divided(1, 0, 1)), Less(2))
        # 24 R against 10 ** 29 + 1: all take the rest, up to there.
        self.assertEqual(never_less(Fixed(GREAT), Fixed(GREAT + 1)), Less(GREAT + 1))
        self.assertEqual(never_less(Fixed(GREAT) & Divided.up(7), Fixed(GREAT + 1) & Divided.up(7)), Less(7 * GREAT + 1))

    def test_by_hand(self):
        self.assertEqual(never_less(HALF, HALF), NeverLess(((2,), (1,))))
        self.assertEqual(never_less(Fixed(2), Fixed(3)), Less(3))
        self.assertEqual(never_less(THIRD, HALF), Less(3))
        self.assertEqual(never_less(HALF, Fixed(4)), Less(2))

    def test_papers(self):
        self.is_paper(NeverLess, "begins")
        self.is_paper(Steady, "begins")
        self.is_paper(Same, "first, last")
        self.is_paper(Surely, "never, steady")
        self.is_paper(Less, "rest", Denial)
        self.is_paper(Jump, "rest", Denial)
        self.is_paper(Other, "rest", Denial)
        self.is_paper(Counter, "total, counts", Denial)
        self.is_paper(Undecided, "upto", Denial)


class SteadinessTest(StretchesCase):
    def test_drawn_rules(self):
        kinds = []
        rules = [rule for rule, _ in pairs(2, 120)]
        for rule in rules + [rule | Divided(3, -60, 2) for rule in rules[:60] if len(rule.parts) < 6]:
            told = steadiness(rule)
            kinds.append(type(told))
            rest = first_rest(lambda rest: rule(rest + 1) > rule(rest) + 1, FAR)
            if rest is None:
                self.stretches(Steady, told, [rule], rule.modulus, (0, 1))
            else:
                self.assertEqual((told, type(told.rest)), (Jump(rest), int))
            self.assertEqual(steadiness(rule=rule), told)
        self.assertTrue(kinds.count(Steady) > 20 and kinds.count(Jump) > 20)

    def test_far_rests(self):
        self.assertEqual(steadiness(Divided(2, 0, 1)), steadiness(Divided(1, 0, 1)))
        # The half is GREAT at 2 * GREAT; behind it two thirds of the rest, rounded down, never jump.
        self.assertIs(type(steadiness((HALF & Fixed(GREAT)) | Divided(2, -1000, 3))), Steady)
        # 3 / 2 of the rest less 500 rises by 1 and 2; the 24th part of the rest is above it at first.
        rule = Divided(3, -1000, 2) | Divided(1, 0, 24)
        self.assertEqual(steadiness(rule), Jump(first_rest(lambda rest: rule(rest + 1) > rule(rest) + 1, FAR)))
        # The whole rest can be taken from 3 * GREAT on, where its third is GREAT.
        rule = (Divided(1, 0, 3) & Fixed(GREAT)) | (Divided(2, 0, 3) & Fixed(GREAT + 5))
        self.assertIs(type(steadiness(rule)), Steady)

    def test_by_hand(self):
        self.assertEqual(steadiness(WILD), Jump(5))
        # 2 R - 3: at 2 it is 1, at 3 it is 3.
        self.assertEqual(steadiness(Divided(2, -3, 1)), Jump(2))
        self.assertEqual(steadiness(Fixed(1)), Steady(((1,),)))
        self.assertEqual(type(steadiness(HALF)), Steady)
        # 2 R - 10: at 5 it is 1, at 6 it is 2, at 7 it is 4.
        self.assertEqual(steadiness(Divided(2, -10, 1)), Jump(6))


class AlikeTest(Case):
    def test_drawn_rules(self):
        kinds = []
        for one, other in [*pairs(3, 120)] + [(rule, rule | Fixed(1)) for rule, _ in pairs(4, 30) if len(rule.parts) < 6]:
            told = alike(one, other)
            kinds.append(type(told))
            rest = first_rest(lambda rest: one(rest) != other(rest), FAR)
            if rest is None:
                self.assertEqual(told, Same(never_less(one, other), never_less(other, one)))
            else:
                self.assertEqual((told, type(told.rest)), (Other(rest), int))
            self.assertEqual(bool(told), bool(never_less(one, other)) and bool(never_less(other, one)))
            self.assertEqual(alike(other=other, one=one), told)
        self.assertTrue(kinds.count(Same) > 20 and kinds.count(Other) > 20)

    def test_far_rests(self):
        self.assertEqual(alike(HALF, HALF & Fixed(GREAT)), Other(2 * GREAT + 1))
        self.assertEqual(alike(HALF & Fixed(GREAT), HALF), Other(2 * GREAT + 1))
        self.assertTrue(alike(Divided(1, 0, 1), Divided(3, 7, 2)))


def count_of(rule, total):
    return len(rule.list_for(total))


class SurelyFewerTest(Case):
    def test_drawn_rules(self):
        kinds = []
        for one, other in pairs(5, 200):
            for upto in (40, 0, 7):
                told = surely_fewer(one, other, upto)
                kinds.append(type(told))
                never = never_less(one, other)
                steady = [paper for paper in (steadiness(one), steadiness(other)) if paper]
                total = first_rest(lambda total: count_of(one, total) > count_of(other, total), upto)
                if never and steady:
                    self.assertEqual(told, Surely(never, steady[0]))
                    self.assertIs(total, None)
                elif total is not None:
                    self.assertEqual(told, Counter(total, (count_of(one, total), count_of(other, total))))
                    self.assertEqual([type(told.counts), *map(type, told.counts)], [tuple, int, int])
                else:
                    self.assertEqual(told, Undecided(upto))
                self.assertEqual(surely_fewer(upto=upto, other=other, one=one), told)
        self.assertTrue(min(kinds.count(kind) for kind in (Surely, Counter, Undecided)) > 20)

    def test_up_to_1000_if_nothing_is_told(self):
        # The list of 12 items or more has a chunk more for the first one, at 1,001 items for the first time.
        one, other = Fixed(1000) | Divided(1, 0, 24), Fixed(1001)
        self.assertEqual(surely_fewer(one, other), Undecided(1000))
        self.assertEqual(surely_fewer(one, other, 1000), Undecided(1000))
        self.assertEqual(surely_fewer(one, other, 1001), Counter(1001, (2, 1)))
        self.assertEqual(surely_fewer(one, other, upto=10000), Counter(1001, (2, 1)))

    def test_which_one_is_steady(self):
        steady, jumping = HALF, Divided(2, 0, 3) | Divided(5, -20, 3)
        self.assertEqual((bool(steadiness(steady)), bool(steadiness(jumping))), (True, False))
        self.assertEqual(surely_fewer(jumping, Fixed(1)), Surely(never_less(jumping, Fixed(1)), steadiness(Fixed(1))))
        both = surely_fewer(HALF, THIRD)
        self.assertEqual(both, Surely(never_less(HALF, THIRD), steadiness(HALF)))
        whole = Divided(1, 0, 1)
        self.assertEqual(surely_fewer(whole, jumping), Surely(never_less(whole, jumping), steadiness(whole)))

    def test_never_less_and_not_steady(self):
        # Each is never less than itself, and never has more chunks: but neither is steady.
        self.assertEqual(surely_fewer(WILD, WILD, 300), Undecided(300))
        # Jumps can make more chunks of a rule that is never less.
        one, other = Fixed(3) | Divided(24, -120, 1), (Fixed(3) | Divided(24, -120, 1)) & Fixed(10 ** 30)
        self.assertFalse(steadiness(one))
        self.assertEqual(surely_fewer(one, other, 50), Undecided(50))


class FollowsTest(Case):
    def test_lesser_and_greater_ones(self):
        for one, other in pairs(6, 60):
            if len(one.parts) + len(other.parts) <= 6:
                for rule in (one, other):
                    self.assertTrue(never_less(rule, one & other))
                    self.assertTrue(never_less(one | other, rule))

    def test_from_rule_to_rule(self):
        rules = [rule for pair in pairs(7, 12) for rule in pair][:14]
        for one in rules:
            for other in rules:
                if lcm(one.modulus, other.modulus) <= 48 and never_less(one, other):
                    for last in rules:
                        if lcm(other.modulus, last.modulus, one.modulus) <= 96 and never_less(other, last):
                            self.assertTrue(never_less(one, last))

    def test_no_total_has_more_chunks(self):
        for one, other in pairs(8, 120):
            if surely_fewer(one, other, 0):
                for total in range(1, 120):
                    self.assertTrue(count_of(one, total) <= count_of(other, total))


class LookTest(Case):
    def test_what_is_told(self):
        for one, other in pairs(9, 100):
            self.is_same(shows_never_less(one, other, never_less(one, other)), True)
            self.is_same(shows_steady(one, steadiness(one)), True)
            self.is_same(shows_alike(one, other, alike(one, other)), True)
            told = surely_fewer(one, other, 60)
            self.is_same(shows_fewer(one, other, told, 60), type(told) is not Undecided)
            self.is_same(shows_fewer(upto=60, value=told, other=other, one=one), type(told) is not Undecided)
            self.is_same(shows_never_less(value=never_less(one, other), other=other, one=one), True)
            self.is_same(shows_steady(value=steadiness(one), rule=one), True)
            self.is_same(shows_alike(value=alike(one, other), other=other, one=one), True)

    def right_begins(self, begins, rules, modulus, shifts=(0,)):
        """Whether begins are as the document tells them, tried at rests; the last stretch at some more, and far away."""
        if type(begins) is not tuple or len(begins) != modulus:
            return False
        for residue, row in enumerate(begins):
            if type(row) is not tuple or not row or any(type(begin) is not int for begin in row):
                return False
            if row[0] != (residue or modulus) or list(row) != sorted(set(row)):
                return False
            if any(begin % modulus != residue for begin in row):
                return False
            many = FAR // modulus
            if not all(no_two_change_sides(rule, [rest + shift for rest in rests]) for rule in rules for shift in shifts
                       for rests in stretches_of(row, modulus, many)):
                return False
        return True

    def changed(self, begins, modulus):
        """The same begins, and such with one of them left out, put in, moved, or of another kind; residues exchanged."""
        yield begins
        yield begins[1:]
        yield begins + begins[:1]
        yield begins[::-1]
        yield list(begins)
        for residue, row in list(enumerate(begins))[:2]:
            rows = [row[:at] + row[at + 1:] for at in range(len(row))] + [row + row[-1:], (), list(row), row[::-1]]
            rows += [row + (row[-1] + modulus,), row + (row[-1] + modulus * 7, row[-1] + modulus * 10 ** 30)]
            rows += [row + (row[-1] + 1,), (0,) + row, (row[0] - modulus,) + row]
            for at, begin in enumerate(row):
                for moved in (begin + modulus, begin - modulus, begin + 1, bool(begin), Ratio(begin), None, str(begin)):
                    rows.append(row[:at] + (moved,) + row[at + 1:])
                rows.append(row[:at + 1] + (begin + modulus,) + row[at + 1:])
                rows.append(row[:at + 1] + (begin + modulus, begin + 2 * modulus) + row[at + 1:])
            for changed in rows:
                yield begins[:residue] + (changed,) + begins[residue + 1:]

    def test_begins_that_are_otherwise(self):
        rights = []
        for one, other in pairs(10, 24):
            told = never_less(one, other)
            if told:
                modulus = len(told.begins)
                for begins in self.changed(told.begins, modulus):
                    right = self.right_begins(begins, [one, other], modulus)
                    rights.append(right)
                    self.is_same(shows_never_less(one, other, NeverLess(begins)), right)
        for rule, _ in pairs(11, 12):
            told = steadiness(rule)
            if told:
                for begins in self.changed(told.begins, rule.modulus):
                    right = self.right_begins(begins, [rule], rule.modulus, (0, 1))
                    rights.append(right)
                    self.is_same(shows_steady(rule, Steady(begins)), right)
        self.assertTrue(rights.count(True) > 60 and rights.count(False) > 100)

    def test_right_begins_of_what_is_not_so(self):
        for one, other in pairs(12, 60):
            modulus = lcm(one.modulus, other.modulus)
            begins = tuple(begins_by_hand([one, other], modulus))
            self.is_same(shows_never_less(one, other, NeverLess(begins)), bool(never_less(one, other)))
            begins = tuple(begins_by_hand([one], one.modulus, (0, 1)))
            self.is_same(shows_steady(one, Steady(begins)), bool(steadiness(one)))

    def test_right_begins_of_what_is_less_on_one_stretch(self):
        # From 3 on it is always one less.
        self.is_same(shows_never_less(Fixed(2), Fixed(3), NeverLess(((1, 2, 3),))), False)
        self.is_same(shows_never_less(Fixed(3), Fixed(2), NeverLess(((1, 2, 3),))), True)
        # At 9 it is 5 and 6: it falls below just at the last rest of a stretch.
        one, other = Fixed(5) | Divided(1, -4, 1), Divided(1, 3, 2)
        begins = ((2, 6, 10), (1, 5, 11))
        self.assertEqual([rest for rest in range(1, 200) if one(rest) < other(rest)], [9])
        self.assertTrue(self.right_begins(begins, [one, other], 2))
        self.is_same(shows_never_less(one, other, NeverLess(begins)), False)
        self.is_same(shows_never_less(one | Fixed(6), other, NeverLess(tuple(begins_by_hand([one | Fixed(6), other], 2)))), True)

    def test_any_rest_at_which_it_is_so(self):
        for one, other in pairs(13, 60):
            for rest in [*range(1, 60), 10 ** 49, 10 ** 49 + 1]:
                self.is_same(shows_never_less(one, other, Less(rest)), one(rest) < other(rest))
                self.is_same(shows_steady(one, Jump(rest)), one(rest + 1) > one(rest) + 1)
                self.is_same(shows_alike(one, other, Other(rest)), one(rest) != other(rest))

    def test_same(self):
        one, other = HALF, HALF | Fixed(1)
        told = alike(one, other)
        self.is_same(shows_alike(one, other, told), True)
        self.is_same(shows_alike(other, one, told), shows_never_less(other, one, told.first)
                     and shows_never_less(one, other, told.last))
        below, above = never_less(HALF, THIRD), NeverLess(tuple(begins_by_hand([HALF, THIRD], 6)))
        self.assertTrue(below)
        for paper in (Same(below, below), Same(above, above), Same(below, Less(3)), Same(Less(3), below), Same(below, None)):
            self.is_same(shows_alike(HALF, THIRD, paper), False)
            self.is_same(shows_alike(THIRD, HALF, paper), False)
        for paper in (Same(told.first, None), Same(None, told.last), Same(told.first, Steady(told.last.begins)), told.first):
            self.is_same(shows_alike(one, other, paper), False)
        # Other begins, each way, are right too.
        more = NeverLess(((2, 8), (1, 3, 5)))
        self.is_same(shows_alike(HALF, HALF, Same(more, never_less(HALF, HALF))), True)
        self.is_same(shows_alike(HALF, HALF, Same(never_less(HALF, HALF), more)), True)

    def test_surely(self):
        never = never_less(HALF, THIRD)
        one, other = steadiness(HALF), steadiness(THIRD)
        for steady in (one, other, Steady(((2, 4), (1,)))):
            self.is_same(shows_fewer(HALF, THIRD, Surely(never, steady)), True)
            self.is_same(shows_fewer(THIRD, HALF, Surely(never, steady)), False)
        for paper in (Surely(one, never), Surely(never, never), Surely(never, NeverLess(one.begins)), Surely(one, one),
                      Surely(Steady(never.begins), one), Surely(never, Steady(never.begins)), Surely(never, Jump(1)),
                      Surely(Less(1), one), Surely(never, None), Surely(None, one), never, one):
            self.is_same(shows_fewer(HALF, THIRD, paper), False)
        self.is_same(shows_fewer(WILD, WILD, Surely(never_less(WILD, WILD), Steady(((3,), (1,), (2,))))), False)

    def test_counters(self):
        for one, other in pairs(14, 50):
            for total in range(-1, 40):
                counts = (count_of(one, total), count_of(other, total)) if total > 0 else (1, 0)
                right = 1 <= total <= 30 and counts[0] > counts[1]
                self.is_same(shows_fewer(one, other, Counter(total, counts), 30), right)
                for changed in (counts[::-1], (counts[0] + 1, counts[1]), (counts[0], counts[1] - 1), list(counts),
                                counts + (1,), counts[:1], (counts[0], Ratio(counts[1])), (Ratio(counts[0]), counts[1])):
                    if changed != counts or type(changed) is not tuple or Ratio in map(type, changed):
                        self.is_same(shows_fewer(one, other, Counter(total, changed), 30), False)
        self.assertEqual((count_of(Fixed(1), 2), count_of(Fixed(2), 2)), (2, 1))
        self.is_same(shows_fewer(Fixed(1), Fixed(2), Counter(2, (2, 1)), 2), True)
        self.is_same(shows_fewer(Fixed(1), Fixed(2), Counter(2, (2, True)), 2), False)
        self.is_same(shows_fewer(Fixed(1), Fixed(2), Counter(2, (2, 1)), 1), False)
        self.is_same(shows_fewer(Fixed(1), Fixed(2), Counter(1000, (1000, 500))), True)
        self.is_same(shows_fewer(Fixed(1), Fixed(2), Counter(1001, (1001, 501))), False)
        self.is_same(shows_fewer(Fixed(1), Fixed(2), Counter(10000, (10000, 5000)), 10000), True)
        self.is_same(shows_fewer(Fixed(1), Fixed(1000), Counter(1, (1, 1))), False)

    def test_undecided_is_never_right(self):
        for upto in (0, 50, 1000, 10000):
            self.is_same(shows_fewer(WILD, WILD, Undecided(upto), upto), False)

    def test_values_of_all_kinds(self):
        for value in everything():
            good = type(value) is int and value >= 1
            self.is_same(shows_never_less(Fixed(1), Fixed(2), Less(value)), good and value >= 2)
            self.is_same(shows_steady(Divided(2, -1, 1), Jump(value)), False)
            self.is_same(shows_steady(Divided(2, -100, 1), Jump(value)), good and Divided(2, -100, 1)(value + 1)
                         > Divided(2, -100, 1)(value) + 1)
            self.is_same(shows_alike(Fixed(1), Fixed(2), Other(value)), good and value >= 2)
            self.is_same(shows_fewer(Fixed(1), Fixed(2), Counter(value, (2, 1))), type(value) is int and value == 2)
            self.is_same(shows_fewer(Fixed(1), Fixed(2), Counter(2, value)), False)
            for paper in (value, NeverLess(value), NeverLess((value,)), NeverLess(((value,),)) if value != 1 else None):
                self.is_same(shows_never_less(Fixed(1) | Fixed(3), Fixed(5), paper), False)
            if type(value) is not NeverLess:
                self.is_same(shows_never_less(HALF, HALF, value), False)
            for paper in (value, Steady(value), Steady((value,)), Same(value, value), Surely(value, value)):
                self.is_same(shows_steady(WILD, paper), False)
                self.is_same(shows_fewer(WILD, WILD, paper), False)
            for paper in (value, Same(value, value), Same(never_less(WILD, WILD), value), Same(value, never_less(WILD, WILD))):
                self.is_same(shows_alike(WILD, WILD, paper), False)
        self.is_same(shows_never_less(Fixed(1), Fixed(1), NeverLess(((True,),))), False)
        self.is_same(shows_never_less(Fixed(1), Fixed(1), NeverLess(((1,),))), True)

    def test_papers_exchanged(self):
        papers = [NeverLess(((1,),)), Steady(((1,),)), Less(2), Jump(2), Other(2), Counter(2, (2, 1)), Undecided(5)]
        told = [[shows_never_less(Fixed(1), Fixed(2), paper), shows_steady(Fixed(1), paper),
                 shows_alike(Fixed(1), Fixed(2), paper), shows_fewer(Fixed(1), Fixed(2), paper)] for paper in papers]
        self.assertEqual(told, [[False] * 4, [False, True, False, False], [True, False, False, False], [False] * 4,
                                [False, False, True, False], [False, False, False, True], [False] * 4])


class WrongTest(Case):
    def calls(self):
        return [never_less, alike, lambda one, other: surely_fewer(one, other, None),
                lambda one, other: shows_never_less(one, other, None), lambda one, other: shows_alike(one, other, None),
                lambda one, other: shows_fewer(one, other, None, None)]

    def test_two_rules(self):
        by = By(a_function)
        for call in self.calls():
            for value in but(Fixed, Divided, Lesser, Greater, By):
                self.raises(BadRule("one"), call, value, None)
                self.raises(BadRule("one"), call, value, by)
                self.raises(BadRule("other"), call, Fixed(1), value)
                self.raises(BadRule("other"), call, by, value)
            for one, other in ((by, Fixed(1)), (Fixed(1), by), (by, by)):
                self.raises(BadRule("function"), call, one, other)
            one = Divided(1, 0, 23) & Divided(1, 0, 19)
            self.raises(TooMany("residues", 5000), call, one, Divided(1, 0, 12))
            self.raises(TooMany("residues", 5000), call, Divided(1, 0, 24), one)

    def test_one_rule(self):
        for value in but(Fixed, Divided, Lesser, Greater, By):
            self.raises(BadRule("rule"), steadiness, value)
            self.raises(BadRule("rule"), shows_steady, value, None)
        self.raises(BadRule("function"), steadiness, By(a_function))
        self.raises(BadRule("function"), shows_steady, By(a_function), None)

    def test_totals(self):
        for value in integers_but(0, 10000) + [-1, 10001]:
            self.raises(BadTotal(value), surely_fewer, HALF, THIRD, value)
            self.raises(BadTotal(value), shows_fewer, HALF, THIRD, None, value)
            self.raises(BadTotal(value), surely_fewer, HALF, THIRD, upto=value)

    def test_many_residues(self):
        one, other = Divided(1, 0, 23) & Divided(1, 40, 19), Divided(1, 0, 11) & Divided(1, 8, 23)
        told = never_less(one, other)
        self.assertEqual(told, Less(first_rest(lambda rest: one(rest) < other(rest), 10000)))
        told = never_less(one | other, other)
        self.assertEqual(len(told.begins), 4807)
        self.is_same(shows_never_less(one | other, other, told), True)
