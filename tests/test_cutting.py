"""Long lists of rules and their lateness: what they are, beside lists cut one by one, and how often rules are asked."""

from latechunks.chunks import Chunks
from latechunks.crews import Crew
from latechunks.cutting import count_by, count_in_row, sizes_by
from latechunks.errors import TooMany
from latechunks.late import all_latenesses, latest, lateness
from latechunks.ratios import Ratio
from latechunks.rules import By, Divided, Fixed, Lesser, Rule
from latechunks.settings import Setting
from tests.helper import Case
from tests.test_late import CREWS, lates
from tests.test_plays import exact
from tests.test_residues import drawn_rules

GREAT = 10 ** 30
MANY_PARTS = "( ( ( divided 1 5 4 & divided 1 1000 6 ) & ( divided 24 -20 3 | fixed 20 ) ) & fixed 1000000000007 )"
ONES = "( ( ( ( fixed 1 & fixed 2 ) & fixed 3 ) | fixed 1 ) & fixed 50021 )"
TOTALS = [0, 1, 2, 3, 4, 5, 7, 10, 23, 24, 25, 64, 100, 999, 1000, 1001, 4999, 5000, 5001, 10000, 10 ** 6 + 50, 10 ** 18]


def one_by_one(rule, total):
    """The sizes of a list, each told by the rule for what is left; None if there are too many."""
    sizes = []
    while total > 0:
        if len(sizes) == 5000:
            return None
        sizes.append(rule(total))
        total -= sizes[-1]
    return tuple(sizes)


def latenesses_of(setting, chunks):
    """Late of all chunks, one by one."""
    return [setting.late_of(rest, at, size) for at, (rest, size) in enumerate(zip(chunks.rests, chunks.sizes))]


class Asked(Lesser):
    """A rule that counts how often its chunk is asked for."""

    def __init__(self, rule):
        super().__init__(rule, rule)
        self.times = 0

    def __call__(self, rest):
        self.times += 1
        return super().__call__(rest)


class ListsTest(Case):
    def same_list(self, rule, total):
        expected = one_by_one(rule, total)
        if expected is None:
            self.raises(TooMany("chunks", 5000), rule.list_for, total)
        else:
            self.is_same(rule.list_for(total).sizes, expected)
        return expected

    def test_beside_lists_cut_one_by_one(self):
        lengths = set()
        for far in (False, True):
            for rule in drawn_rules(51, 120, far):
                for total in TOTALS[::3] if far else TOTALS[1::2]:
                    lengths.add(len(self.same_list(rule, total) or ()))
        self.assertTrue(max(lengths) > 1000, max(lengths))

    def test_as_many_chunks_as_there_can_be(self):
        for size in (1, 2, 7, 10 ** 26):
            for total in (5000 * size, 5000 * size - 1, 4999 * size + 1, 5000 * size + 1, 5001 * size):
                self.same_list(Fixed(size), total)
        for y in (-1000, -999, 0):
            for total in range(5010 - 200, 5010 + 1200, 41):
                self.same_list(Divided(1, y, 24), total)
        # Chunks of 2 from 1,048 on, of 1 below it.
        rule = Fixed(2) & Divided(1, -1000, 24)
        for total in (1047, 1048, 1049, 8950, 8951, 8952, 8953, 8954, 8955):
            self.same_list(rule, total)

    def test_counts_of_chunks(self):
        for rule in drawn_rules(52, 80):
            for total in (0, 1, 2, 7, 64, 1000, 9999):
                self.is_same(count_by(rule, total), len(list(rule.walk(total))))
        self.is_same(count_by(Fixed(1), GREAT), GREAT)

    def test_rows_of_equal_chunks(self):
        for rule in (Fixed(3), Divided(1, 1, 2) & Fixed(5), Divided(1, 0, 24), Divided(0, 40, 7)):
            for total in range(1, 120):
                size = rule(total)
                sizes = one_by_one(rule, total)
                expected = next((at for at, other in enumerate(sizes) if other != size), len(sizes))
                self.is_same(count_in_row(rule, total, size), expected)

    def test_behind_other_chunks(self):
        for rule in (Fixed(2), Divided.up(2), By(lambda rest: 2)):
            for ahead in (0, 1, 4990):
                self.is_same(sizes_by(rule, 13, ahead), list(one_by_one(rule, 13)))
            self.is_same(sizes_by(rule, 8, 4996), list(one_by_one(rule, 8)))
            self.is_same(sizes_by(rule, 0, 5000), [])
            self.raises(TooMany("chunks", 5000), sizes_by, rule, 1, 5000)
            self.raises(TooMany("chunks", 5000), sizes_by, rule, 8, 4997)

    def test_the_measured_lists(self):
        many, ones = Rule.read(MANY_PARTS), Rule.read(ONES)
        for rule in (many, ones):
            self.raises(TooMany("chunks", 5000), rule.list_for, 10 ** 25)
        self.raises(TooMany("chunks", 5000), ones.list_for, 10 ** 6 + 50)
        self.is_same(many.list_for(10 ** 6 + 50).sizes, one_by_one(many, 10 ** 6 + 50))
        self.is_same(str(many.list_for(10 ** 6 + 50)).split(" ")[:5], ["166841", "139034", "115862", "96552", "80460"])
        self.is_same((len(many.list_for(10 ** 6 + 50)), many.list_for(10 ** 6 + 50).total), (54, 10 ** 6 + 50))
        self.is_same(ones.list_for(2999), Chunks.even(2999, 1))


class AskedTest(Case):
    def test_too_many_chunks_are_seen_at_once(self):
        for rule in (Fixed(1), Fixed(10 ** 21), Divided(0, 7, 1), Fixed(10 ** 12 + 7) & Divided(1, 5, 4)):
            asked = Asked(rule)
            self.raises(TooMany("chunks", 5000), asked.list_for, 10 ** 25)
            self.is_same(asked.times, 1)

    def test_equal_chunks_are_not_asked_for_one_by_one(self):
        for rule, total, most in ((Fixed(1), 5000, 40), (Fixed(7), 34999, 40), (Divided(1, -1000, 24), 5000, 500),
                                  (Divided(1, 1, 2), GREAT, 220), (Divided(1, 0, 24), GREAT, 2500)):
            asked = Asked(rule)
            self.is_same(asked.list_for(total), rule.list_for(total))
            self.assertTrue(asked.times <= most, asked.times)

    def test_a_rule_of_a_function_is_asked_once_for_each_chunk(self):
        calls = []
        by = By(lambda rest: calls.append(rest) or 2)
        self.is_same(by.list_for(9).sizes, (2, 2, 2, 2, 1))
        self.is_same(calls, [9, 7, 5, 3, 1])


class LongLatenessTest(Case):
    def test_lists_of_five_thousand_chunks(self):
        for chunks in (Chunks.even(5000, 1), Chunks.of([7] * 5000), Chunks.of([1 + k * k % 997 for k in range(5000)]),
                       Rule.read(ONES).list_for(2999)):
            for crew in CREWS[1::3]:
                for least, most, fee in ((1, 1, 0), (2, 7, 0), (1, 60, 3)):
                    setting = Setting(crew, least, most, fee)
                    expected = latenesses_of(setting, chunks)
                    self.is_same(lateness(chunks, setting), Ratio.greatest(expected))
                    self.is_same(latest(chunks, setting).at, expected.index(Ratio.greatest(expected)))
                    self.is_same(all_latenesses(chunks, setting)[::501], tuple(expected[::501]))

    def test_by_hand(self):
        # The first chunks are covered by those behind them, the last one by nothing: 7 - 7/2.
        self.is_same(lateness(Chunks.of([7] * 5000), Setting(Crew.even(2))), Ratio(7, 2))
        # With a fee the last chunk is late by all fees: 4,999 takings by the fast worker, less the last cost.
        told = lateness(Chunks.even(5000, 1), Setting(Crew(a=1, b=3), fee=1))
        self.is_same(told, 2 + Ratio(4999 * 3 - 1, 3))
        self.assertEqual(exact(told), lates(Setting(Crew(a=1, b=3), fee=1), (1,) * 5000)[-1])
