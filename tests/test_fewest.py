"""The fewest chunks within limits and the least limits, beside all lists of small totals."""

from fractions import Fraction
from math import lcm

from latechunks.chunks import Chunks
from latechunks.crews import Crew
from latechunks.errors import BadChunks, BadLimit, BadSetting, BadTotal, TooMany, TooStrict
from latechunks.fewest import (Fewest, Greatest, Least, NoList, chunks_within, count_fewest, fewest, greatest_total, grid,
                               least_limit, staircase)
from latechunks.late import lateness
from latechunks.papers import Denial
from latechunks.ratios import Ratio
from latechunks.settings import Setting
from tests.helper import Case, but
from tests.test_chunks import lists_of
from tests.test_plays import exact, ratio
from tests.test_settings import integers_but

GREAT = 10 ** 30
CREWS = [Crew(a=3), Crew.even(2), Crew(a=1, b=3), Crew(a=2, b=5, c=7), Crew.even(5, 2), Crew.even(8, 60)]
SETTINGS = [Setting(crew, least, most, fee) for crew in CREWS for least, most in ((1, 1), (1, 2), (2, 5))
            for fee in (0, 1, 7)]
# With these speeds a list of 5,000 chunks is full already at some 10 ** 5 items.
SLOW = Setting(Crew(a=1, b=60, c=60, d=60, e=60, f=60, g=60, h=60))
TOTALS = range(1, 8)


def late_lists(setting, total):
    """The pairs of the lateness of each list of a total, and the list."""
    return [(lateness(Chunks(*sizes), setting), sizes) for sizes in lists_of(total)]


def limits_around(lists):
    """Limits below, at and above each lateness of some lists."""
    told = sorted({exact(one) for one, _ in lists})
    around = [one + shift for one in told for shift in (Fraction(-1, 10 ** 6), 0, Fraction(1, 10 ** 6))]
    return [ratio(one) for one in around + [told[0] - 1, told[-1] + 1]]


def some_limits(total, setting):
    least = least_limit(total, setting).limit
    step = Ratio(1, grid(setting))
    return [least - 1, least - step, least, least + step, least + 1, 2 * least, least * Ratio(7, 3) + 5]


def greedy_told_step_by_step(total, setting, limit):
    rests = [total]
    while rests[-1] > 0 and len(rests) <= 5000:
        size = setting.let(rests[-1], len(rests) - 1, limit)
        if size == 0:
            break
        rests.append(rests[-1] - size)
    return rests


class GreedyTest(Case):
    def test_the_greatest_let_chunks(self):
        for setting in SETTINGS:
            for total in (0, 1, 2, 5, 31, 1000, 10 ** 9, GREAT):
                for limit in some_limits(max(total, 1), setting):
                    rests = greedy_told_step_by_step(total, setting, limit)
                    if rests[-1] == 0:
                        sizes = [rest - left for rest, left in zip(rests, rests[1:])]
                        self.assertEqual(fewest(total, setting, limit), Fewest(Chunks(*sizes)))
                        self.is_same(count_fewest(total, setting, limit), len(sizes))
                        self.is_same(chunks_within(total, setting, limit), Chunks(*sizes))
                    else:
                        told = fewest(total, setting, limit)
                        self.assertEqual((type(told), told.rests), (NoList, tuple(rests)))
                        self.is_same(count_fewest(total, setting, limit), None)
                        self.raises(TooStrict(limit), chunks_within, total, setting, limit)

    def test_by_name(self):
        setting = Setting(Crew.even(3))
        for function in (fewest, count_fewest, chunks_within):
            self.assertEqual(function(limit=1, setting=setting, total=10), function(10, setting, 1))
        self.assertEqual(greatest_total(limit=1, setting=setting, count=4), greatest_total(4, setting, 1))
        self.assertEqual(least_limit(most=4, setting=setting, total=10), least_limit(10, setting, 4))
        self.assertEqual(list(staircase(setting=setting, total=10)), list(staircase(10, setting)))
        self.assertEqual(grid(setting=setting), 3)

    def test_limits_of_both_kinds(self):
        setting = Setting(Crew.even(2))
        for limit in (1, Ratio(1)):
            self.assertEqual(str(chunks_within(10, setting, limit)), "6 3 1")
        told = []
        for limit in (-1, Ratio(-1, 2)):
            self.raises(TooStrict(limit), chunks_within, 10, setting, limit)
            told.append(fewest(10, setting, limit).rests)
        # Within -1 at most 10 / 2 - 1 may go of 10, then 2 of 6, 1 of 4; within -1/2 also 1 of 3.
        self.assertEqual(told, [(10, 6, 4, 3), (10, 6, 4, 3, 2)])

    def test_nothing_to_cut(self):
        for setting in SETTINGS:
            for limit in (-GREAT, Ratio(-1, 7), 0, 5):
                self.assertEqual(fewest(0, setting, limit), Fewest(Chunks()))
                self.is_same(count_fewest(0, setting, limit), 0)
                self.assertEqual(chunks_within(0, setting, limit), Chunks())

    def test_all_lists_of_small_totals(self):
        for setting in SETTINGS:
            for total in TOTALS:
                lists = late_lists(setting, total)
                for limit in limits_around(lists):
                    within = [sizes for late, sizes in lists if late <= limit]
                    told = fewest(total, setting, limit)
                    self.is_same(bool(told), bool(within))
                    if within:
                        self.assertEqual(len(told.chunks), min(len(sizes) for sizes in within))
                        self.assertTrue(lateness(told.chunks, setting) <= limit)
                        self.assertEqual(told.chunks.total, total)
                        self.least_rests(within, list(told.chunks.rests) + [0])

    def least_rests(self, within, rests):
        """Behind so many chunks of any of these lists no less is left than the greedy list leaves."""
        for sizes in within:
            for place in range(len(rests)):
                if place <= len(sizes):
                    self.assertTrue(sum(sizes[place:]) >= rests[place])

    def test_the_rests_of_no_list_are_the_least_ones(self):
        for setting in SETTINGS[::2]:
            for total in (5, 6):
                for limit in limits_around(late_lists(setting, total)):
                    told = fewest(total, setting, limit)
                    if not told:
                        reached = self.reached(setting, total, limit)
                        self.assertEqual(list(told.rests), reached[:len(told.rests)])
                        self.assertEqual(told.rests[-1], min(reached))

    def reached(self, setting, total, limit):
        """The least rest behind 0, 1, .. chunks that are let, over all ways to cut."""
        rests, least = {total}, [total]
        while True:
            place = len(least) - 1
            rests = {rest - size for rest in rests for size in range(1, rest + 1)
                     if setting.late_of(rest, place, size) <= limit}
            if not rests:
                return least
            least.append(min(rests))

    def test_too_many_chunks(self):
        limit = least_limit(5 * 10 ** 4, SLOW).limit
        full = greatest_total(5000, SLOW, limit).total
        self.assertTrue(5 * 10 ** 4 <= full < GREAT)
        self.is_same(count_fewest(full, SLOW, limit), 5000)
        for function in (fewest, count_fewest, chunks_within):
            function(full, SLOW, limit)
            for total in (full + 1, full + 70, GREAT):
                self.raises(TooMany("chunks", 5000), function, total, SLOW, limit)

    def test_no_chunk_is_let_behind_many(self):
        self.assertEqual(SLOW.crew.speed, 421)
        # Within 0 just every 421st item may go: from 420 items on nothing.
        rests = [420]
        for _ in range(5000):
            rests.append(rests[-1] + rests[-1] // 420)
        told = fewest(rests[4999], SLOW, 0)
        self.assertEqual(told, NoList(tuple(rests[4999::-1])))
        self.assertEqual(greedy_told_step_by_step(rests[5000], SLOW, 0), rests[::-1])
        self.is_same(SLOW.let(420, 5000, 0), 0)
        self.raises(TooMany("chunks", 5000), fewest, rests[5000], SLOW, 0)

    def test_papers(self):
        self.is_paper(Fewest, "chunks")
        self.is_paper(NoList, "rests", Denial)
        self.is_paper(Greatest, "total, chunks")
        self.is_paper(Least, "limit, chunks, below")


class GreatestTotalTest(Case):
    def test_all_lists_of_small_totals(self):
        for setting in SETTINGS:
            known = {total: late_lists(setting, total) for total in range(1, 9)}
            for limit in limits_around(known[4])[::3] + limits_around(known[2])[1::4]:
                for count in range(1, 6):
                    self.look_at(setting, known, count, limit)

    def look_at(self, setting, known, count, limit):
        have = [total for total, lists in known.items()
                if any(late <= limit and len(sizes) == count for late, sizes in lists)]
        if len(setting.crew) == 1 and setting.fee * count <= limit:
            self.raises(TooMany("total", GREAT), greatest_total, count, setting, limit)
            return
        told = greatest_total(count, setting, limit)
        if told is None:
            self.assertEqual(have, [])
        else:
            self.assertIs(type(told), Greatest)
            self.is_same(told.total, told.chunks.total)
            self.assertEqual(len(told.chunks), count)
            self.assertTrue(lateness(told.chunks, setting) <= limit)
            self.assertEqual(have, list(range(count, min(told.total, 8) + 1)))

    def test_made_from_the_last_chunk(self):
        for setting in SETTINGS[9:]:
            for limit in (setting.lowest, setting.lowest + 5, setting.lowest + Ratio(77, 3), 3 * setting.lowest + 10 ** 6):
                for count in (1, 2, 3, 7, 20):
                    told = greatest_total(count, setting, limit)
                    if told is None:
                        self.assertTrue(setting.late_of(1, count - 1, 1) > limit)
                        continue
                    for place, (rest, size) in enumerate(zip(told.chunks.rests, told.chunks)):
                        self.assertTrue(setting.late_of(rest, place, size) <= limit)
                        self.assertTrue(setting.late_of(rest + 1, place, size + 1) > limit)

    def test_which_totals_have_a_list(self):
        for setting in SETTINGS[9:]:
            for limit in (setting.lowest, setting.lowest + 1, setting.lowest + Ratio(40, 7), 2 * setting.lowest + 9):
                most = 0
                for count in range(1, 7):
                    told = greatest_total(count, setting, limit)
                    most = max(most, told.total if told else 0)
                    for total in {1, most // 2 or 1, most or 1, most + 1, most + 2}:
                        least = count_fewest(total, setting, limit)
                        self.is_same(least is not None and least <= count, total <= most)

    def test_by_hand(self):
        # Costs 1 to 2, two workers: late is 3/2 of the size less half the rest, so the size less half of what is behind.
        setting = Setting(Crew.even(2), 1, 2)
        self.assertEqual(greatest_total(3, setting, 2), Greatest(9, Chunks(4, 3, 2)))
        self.assertEqual(greatest_total(2, setting, Ratio(5, 2)), Greatest(5, Chunks(3, 2)))
        self.assertIs(greatest_total(1, setting, Ratio(99, 100)), None)
        # With a fee of 3 the second chunk is late by 3 + 2 + (3 - 2), the third one would be late by 3 + 2 + (6 - 2).
        # The first chunk is late by 3 + 2 * 3 - (2 * 3 + 1) / 2.
        paid = setting.with_fee(3)
        self.assertEqual(greatest_total(2, paid, 6), Greatest(4, Chunks(3, 1)))
        self.assertIs(greatest_total(3, paid, 6), None)

    def test_totals_that_are_too_great(self):
        two = Setting(Crew.even(2))
        # One chunk is late by half of its size.
        self.assertEqual(greatest_total(1, two, GREAT // 2), Greatest(GREAT, Chunks(GREAT)))
        for limit in (Ratio(GREAT + 1, 2), GREAT, 10 ** 49):
            self.raises(TooMany("total", GREAT), greatest_total, 1, two, limit)
        # The last chunk is twice the limit, the first one twice the limit and the last one.
        self.assertEqual(greatest_total(2, two, GREAT // 6), Greatest(GREAT - 4, Chunks(GREAT // 6 * 4, GREAT // 6 * 2)))
        self.raises(TooMany("total", GREAT), greatest_total, 2, two, GREAT // 6 + 1)
        self.raises(TooMany("total", GREAT), greatest_total, 5000, two, 1)
        for count, fee in ((1, 0), (5000, 0), (3, 2)):
            alone = Setting(Crew(a=7), fee=fee)
            self.raises(TooMany("total", GREAT), greatest_total, count, alone, count * fee)
            self.assertIs(greatest_total(count, alone, count * fee - Ratio(1, 9)), None)

    def test_many_chunks(self):
        told = greatest_total(5000, SLOW, 2)
        self.assertEqual((len(told.chunks), told.chunks.total), (5000, told.total))
        self.is_same(count_fewest(told.total, SLOW, 2), 5000)


class LeastLimitTest(Case):
    def test_grid(self):
        for setting in SETTINGS:
            speeds = [speed for _, speed in setting.crew]
            self.is_same(grid(setting), lcm(min(speeds), max(speeds), sum(speeds)))
            for rest in (1, 2, 7):
                for place in (0, 1, 5):
                    for size in {1, rest}:
                        self.assertEqual((setting.late_of(rest, place, size) * grid(setting)).under, 1)
        self.assertEqual(grid(Setting(Crew(a=4, b=6, c=6))), 48)

    def test_all_lists_of_small_totals(self):
        for setting in SETTINGS:
            for total in TOTALS:
                lists = late_lists(setting, total)
                for most in (1, 2, 3, 4, total, total + 1, 5000):
                    told = least_limit(total, setting, most)
                    least = min(exact(late) for late, sizes in lists if len(sizes) <= most)
                    self.assertIs(type(told), Least)
                    self.assertEqual((type(told.limit), exact(told.limit)), (Ratio, least))
                    self.assertEqual(told.chunks, fewest(total, setting, told.limit).chunks)
                    self.assertTrue(len(told.chunks) <= most)
                    self.below_shows_it(total, setting, most, told)
                self.assertEqual(least_limit(total, setting), told)

    def below_shows_it(self, total, setting, most, told):
        lesser = told.limit - Ratio(1, grid(setting))
        self.assertIs(type(told.below), tuple)
        rests = greedy_told_step_by_step(total, setting, lesser)
        self.assertEqual(list(told.below), rests[:most + 1])
        self.assertTrue(told.below[-1] > 0)

    def test_great_totals(self):
        for setting in SETTINGS[::4]:
            for total in (1000, 10 ** 12 + 7, GREAT):
                for most in (1, 2, 10, 77, 5000):
                    told = least_limit(total, setting, most)
                    self.assertTrue(count_fewest(total, setting, told.limit) <= most)
                    self.assertEqual(told.chunks, chunks_within(total, setting, told.limit))
                    self.below_shows_it(total, setting, most, told)
        self.assertEqual(least_limit(GREAT, SETTINGS[4], 1).limit, SETTINGS[4].late_of(GREAT, 0, GREAT))

    def test_5000_chunks_are_not_enough(self):
        told = least_limit(GREAT, SLOW)
        self.assertEqual((len(told.chunks), len(told.below)), (5000, 5001))
        self.assertTrue(told.limit > SLOW.lowest + 1000)

    def test_staircase(self):
        for setting in SETTINGS:
            for total in (*TOTALS, 30):
                stairs = list(staircase(total, setting))
                expected = []
                for count in range(1, total + 2):
                    limit = least_limit(total, setting, count).limit
                    if not expected or limit < expected[-1][1]:
                        expected.append((count, limit))
                self.assertEqual(stairs, expected)
                self.assertEqual({(type(one), type(one[0]), type(one[1])) for one in stairs}, {(tuple, int, Ratio)})

    def test_staircase_against_all_lists(self):
        for setting in SETTINGS[::3]:
            lists = late_lists(setting, 6)
            expected = []
            for count in range(1, 7):
                least = min(exact(late) for late, sizes in lists if len(sizes) <= count)
                if not expected or least < expected[-1][1]:
                    expected.append((count, least))
            self.assertEqual([(count, exact(limit)) for count, limit in staircase(6, setting)], expected)

    def test_staircase_of_a_great_total(self):
        two = Setting(Crew.even(2))
        stairs = list(staircase(GREAT, two))
        self.assertEqual(stairs[0], (1, Ratio(GREAT, 2)))
        self.assertEqual(stairs[-1], (len(least_limit(GREAT, two).chunks), least_limit(GREAT, two).limit))
        for count, limit in stairs[1::9]:
            self.assertEqual(limit, least_limit(GREAT, two, count).limit)
            self.assertTrue(limit < least_limit(GREAT, two, count - 1).limit)

    def test_staircase_is_asked_step_by_step(self):
        stairs = staircase(GREAT, SLOW)
        told = [next(stairs) for _ in range(3)]
        self.assertEqual([count for count, _ in told], [1, 2, 3])
        self.assertEqual(told[2][1], least_limit(GREAT, SLOW, 3).limit)


class WrongTest(Case):
    def test_values_of_all_kinds(self):
        setting = Setting(Crew.even(2))
        for value in integers_but(0, GREAT):
            for function in (fewest, count_fewest, chunks_within):
                self.raises(BadTotal(value), function, value, None, None)
                self.raises(BadTotal(value), function, limit=1, total=value, setting=setting)
        for value in but(Setting):
            for function in (fewest, count_fewest, chunks_within):
                self.raises(BadSetting("setting"), function, 0, value, None)
            self.raises(BadSetting("setting"), greatest_total, 1, value, None)
            self.raises(BadSetting("setting"), least_limit, 1, value, 0)
            self.raises(BadSetting("setting"), least_limit, 1, value)
            self.raises(BadSetting("setting"), lambda: next(staircase(1, value)))
            self.raises(BadSetting("setting"), grid, value)
        for value in but(int, Ratio):
            for function in (fewest, count_fewest, chunks_within):
                self.raises(BadLimit(value), function, 0, setting, value)
            self.raises(BadLimit(value), greatest_total, 1, setting, value)

    def test_counts_and_totals_from_1(self):
        setting = Setting(Crew.even(2))
        for value in integers_but(1, 5000):
            self.raises(BadChunks("count"), greatest_total, value, None, None)
            self.raises(BadChunks("count"), greatest_total, value, setting, 1)
            self.raises(BadChunks("most"), least_limit, 5, setting, value)
        for value in integers_but(1, GREAT):
            self.raises(BadTotal(value), least_limit, value, None, 0)
            self.raises(BadTotal(value), least_limit, value, setting)
            self.raises(BadTotal(value), lambda: next(staircase(value, None)))
            self.raises(BadTotal(value), lambda: list(staircase(value, setting)))
