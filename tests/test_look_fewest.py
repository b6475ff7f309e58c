"""Looks at papers of fewest chunks, greatest totals and least limits, beside the document's words tried on all sizes."""

from latechunks.chunks import Chunks
from latechunks.crews import Crew
from latechunks.errors import BadChunks, BadLimit, BadSetting, BadTotal, TooMany
from latechunks.fewest import Fewest, Greatest, Least, NoList, fewest, greatest_total, grid, least_limit
from latechunks.late import lateness
from latechunks.look_fewest import shows_fewest, shows_greatest, shows_least
from latechunks.ratios import Ratio
from latechunks.settings import Setting
from tests.helper import Case, but, everything
from tests.test_chunks import lists_of
from tests.test_fewest import GREAT, SETTINGS, SLOW, some_limits
from tests.test_settings import integers_but

SOME = SETTINGS[9::4]


def falling(first, length):
    """All rows of so many integers from 1 on, from the first one on, none above the one ahead of it."""
    if length == 1:
        return [(first,)]
    return [(*row, rest) for row in falling(first, length - 1) for rest in range(1, row[-1] + 1)]


def sizes_let(setting, rest, place, limit):
    return [size for size in range(1, rest + 1) if setting.late_of(rest, place, size) <= limit]


def are_right_rests(rests, setting, limit):
    """Whether, from each rest but the last one, all chunks that leave less than the next one are not let."""
    for place, (rest, left) in enumerate(zip(rests, rests[1:])):
        if any(rest - size < left for size in sizes_let(setting, rest, place, limit)):
            return False
    return True


def is_stuck(rests, setting, limit):
    return not sizes_let(setting, rests[-1], len(rests) - 1, limit)


class FewestTest(Case):
    def test_what_fewest_tells(self):
        for setting in SETTINGS:
            for total in (0, 1, 2, 7, 100, 10 ** 15 + 3, GREAT):
                for limit in some_limits(max(1, total), setting):
                    self.is_same(shows_fewest(total, setting, limit, fewest(total, setting, limit)), True)
        self.is_same(shows_fewest(paper=Fewest(Chunks(6, 3, 1)), limit=1, setting=Setting(Crew.even(2)), total=10), True)

    def test_all_small_lists(self):
        for setting in SOME:
            for total in range(5):
                for limit in some_limits(max(1, total), setting):
                    told = fewest(total, setting, limit)
                    for sizes in [sizes for other in range(6) for sizes in lists_of(other)]:
                        right = isinstance(told, Fewest) and told.chunks == Chunks(*sizes)
                        self.is_same(shows_fewest(total, setting, limit, Fewest(Chunks(*sizes))), right)

    def test_all_small_rests(self):
        seen = []
        for setting in SOME:
            for total in (1, 3, 4):
                for limit in some_limits(total, setting)[:4]:
                    told = fewest(total, setting, limit)
                    for length in range(1, 5):
                        for rests in falling(total, length):
                            right = are_right_rests(rests, setting, limit) and is_stuck(rests, setting, limit)
                            self.is_same(shows_fewest(total, setting, limit, NoList(rests)), right)
                            seen.append(right and (told == NoList(rests)))
        # Not only the greedy rests are right.
        self.assertIn(True, seen)

    def test_rests_that_are_less_than_the_greedy_ones(self):
        three = Setting(Crew.even(3))
        self.assertEqual(fewest(10, three, Ratio(1, 2)).rests, (10, 7, 5, 3, 2, 1))
        # At most 3 may go of 10, 2 of 7, of 6 and of 5, 1 of 4, of 3 and of 2.
        for rests, right in (((10, 7, 5, 3, 2, 1), True), ((10, 6, 4, 3, 2, 1), True), ((10, 6, 4, 2, 1), True),
                             ((10, 2, 1), True), ((10, 1), True), ((10, 7, 5, 3, 2, 1, 1), True), ((10, 1, 1, 1), True),
                             ((10, 6, 5, 3, 2, 1), False), ((10, 8, 5, 3, 2, 1), False), ((10, 7, 5, 4, 2, 1), False),
                             ((10, 7), False), ((10, 2), False), ((10, 7, 5, 3, 2), False)):
            self.assertEqual(are_right_rests(rests, three, Ratio(1, 2)) and is_stuck(rests, three, Ratio(1, 2)), right)
            self.is_same(shows_fewest(10, three, Ratio(1, 2), NoList(rests)), right)

    def test_rests_that_are_none(self):
        three, limit = Setting(Crew.even(3)), Ratio(1, 2)
        for rests in ((), (10,), (9, 7, 5, 3, 2, 1), (11, 7, 5, 3, 2, 1), (10, 7, 5, 3, 2, 1, 0), (10, 7, 5, 3, 2, 0),
                      (10, 7, 8, 5, 3, 2, 1), (10, 7, 5, 3, 2, 1, 2), (10, 7, 5, 3, 2, -1), [10, 7, 5, 3, 2, 1],
                      (10, 7, 5, 3, 2, True), (Ratio(10), 7, 5, 3, 2, 1), (10, 7, 5, 3, 2, Ratio(1)), (10, None),
                      (10, 7, 5, 3, 2, "1"), (10, (7,)), "1", None, 10, {10: 1}):
            self.is_same(shows_fewest(10, three, limit, NoList(rests)), False)
        self.is_same(shows_fewest(1, three, limit, NoList((1,))), True)
        self.is_same(shows_fewest(1, three, limit, NoList((True,))), False)
        for limit in (-5, 0, 5):
            self.is_same(shows_fewest(0, three, limit, NoList((0,))), False)
            self.is_same(shows_fewest(0, three, limit, NoList(())), False)
            self.is_same(shows_fewest(0, three, limit, Fewest(Chunks())), True)

    def test_lists_within_the_limit_that_are_not_greedy(self):
        three = Setting(Crew.even(3))
        self.assertEqual(str(fewest(10, three, 1).chunks), "4 3 2 1")
        for sizes in ((3, 3, 2, 1, 1), (4, 2, 2, 1, 1), (4, 3, 1, 1, 1), (1,) * 10):
            self.assertTrue(lateness(Chunks(*sizes), three) <= 1)
            self.is_same(shows_fewest(10, three, 1, Fewest(Chunks(*sizes))), False)
        for sizes in ((), (10,), (4, 3, 2), (4, 3, 2, 1, 1), (4, 3, 3)):
            self.is_same(shows_fewest(10, three, 1, Fewest(Chunks(*sizes))), False)

    def test_other_totals_settings_and_limits(self):
        three = Setting(Crew.even(3))
        right = Fewest(Chunks(4, 3, 2, 1))
        self.is_same(shows_fewest(10, three, Ratio(5, 4), right), True)
        for total, setting, limit in ((9, three, 1), (11, three, 1), (0, three, 1), (10, Setting(Crew.even(2)), 1),
                                      (10, three.with_fee(1), 1), (10, three, Ratio(2, 3)), (10, three, Ratio(5, 3))):
            self.is_same(shows_fewest(total, setting, limit, right), False)

    def test_rests_of_5001(self):
        rests = [420]
        for _ in range(5001):
            rests.append(rests[-1] + rests[-1] // 420)
        self.is_same(shows_fewest(rests[4999], SLOW, 0, NoList(tuple(rests[4999::-1]))), True)
        self.is_same(shows_fewest(rests[5000], SLOW, 0, NoList(tuple(rests[5000::-1]))), True)
        self.is_same(shows_fewest(rests[5001], SLOW, 0, NoList(tuple(rests[::-1]))), False)
        self.raises(TooMany("chunks", 5000), fewest, rests[5001], SLOW, 0)

    def test_values_of_all_kinds(self):
        three = Setting(Crew.even(3))
        for value in everything():
            for paper in (value, NoList(value), Greatest(10, Chunks(4, 3, 2, 1)), Least(1, Chunks(4, 3, 2, 1), (10, 6))):
                self.is_same(shows_fewest(10, three, 1, paper), False)
            if value != Chunks(4, 3, 2, 1):
                self.is_same(shows_fewest(10, three, 1, Fewest(value)), False)
        self.is_same(shows_fewest(10, three, 1, Fewest((4, 3, 2, 1))), False)

    def test_wrong_arguments(self):
        setting = Setting(Crew.even(2))
        for value in integers_but(0, GREAT):
            self.raises(BadTotal(value), shows_fewest, value, None, None, None)
        for value in but(Setting):
            self.raises(BadSetting("setting"), shows_fewest, 1, value, None, Fewest(Chunks(1)))
        for value in but(int, Ratio):
            self.raises(BadLimit(value), shows_fewest, 1, setting, value, Fewest(Chunks(1)))


class GreatestTest(Case):
    def test_what_greatest_total_tells(self):
        for setting in SETTINGS[9:]:
            for limit in (setting.lowest, setting.lowest + 1, setting.lowest + Ratio(50, 7), 3 * setting.lowest + 40):
                for count in (1, 2, 3, 9):
                    told = greatest_total(count, setting, limit)
                    self.is_same(shows_greatest(count, setting, limit, told), told is not None)
                    if told is not None:
                        self.is_same(shows_greatest(paper=told, limit=limit, setting=setting, count=count), True)
                        for other in (count - 1 or 20, count + 1, 5000):
                            self.is_same(shows_greatest(other, setting, limit, told), False)
                        for total in (told.total - 1, told.total + 1, Ratio(told.total), None, told.chunks):
                            self.is_same(shows_greatest(count, setting, limit, Greatest(total, told.chunks)), False)

    def test_all_small_lists(self):
        for setting in SOME:
            for limit in (setting.lowest, setting.lowest + Ratio(2, 3), setting.lowest + 2):
                for sizes in [sizes for total in range(1, 7) for sizes in lists_of(total)]:
                    chunks = Chunks(*sizes)
                    right = all(setting.late_of(rest, place, size) <= limit
                                < setting.late_of(rest + 1, place, size + 1)
                                for place, (rest, size) in enumerate(zip(chunks.rests, chunks)))
                    paper = Greatest(chunks.total, chunks)
                    self.is_same(shows_greatest(len(sizes), setting, limit, paper), right)
                    if right:
                        self.assertEqual(greatest_total(len(sizes), setting, limit), paper)

    def test_one_worker_has_no_greatest_total(self):
        alone = Setting(Crew(a=2))
        for limit in (-1, 0, 1, 10 ** 40):
            for chunks in (Chunks(1), Chunks(GREAT)):
                self.is_same(shows_greatest(1, alone, limit, Greatest(chunks.total, chunks)), False)

    def test_values_of_all_kinds(self):
        three = Setting(Crew.even(3))
        right = greatest_total(4, three, 1)
        self.is_same(shows_greatest(4, three, 1, right), True)
        for value in everything():
            for paper in (value, Greatest(value, right.chunks), Greatest(10, value)):
                self.is_same(shows_greatest(4, three, 1, paper), False)
        self.is_same(shows_greatest(1, three, Ratio(2, 3), Greatest(1, Chunks(1))), True)
        self.is_same(shows_greatest(1, three, Ratio(2, 3), Greatest(True, Chunks(1))), False)
        self.is_same(shows_greatest(1, three, Ratio(2, 3), Fewest(Chunks(1))), False)

    def test_wrong_arguments(self):
        setting = Setting(Crew.even(2))
        for value in integers_but(1, 5000):
            self.raises(BadChunks("count"), shows_greatest, value, None, None, None)
        for value in but(Setting):
            self.raises(BadSetting("setting"), shows_greatest, 1, value, None, None)
        for value in but(int, Ratio):
            self.raises(BadLimit(value), shows_greatest, 1, setting, value, Greatest(1, Chunks(1)))


class LeastTest(Case):
    def test_what_least_limit_tells(self):
        for setting in SETTINGS:
            for total in (1, 2, 9, 1000, GREAT):
                for most in (1, 2, 5, 600, 5000):
                    told = least_limit(total, setting, most)
                    self.is_same(shows_least(total, setting, most, told), True)
                    self.is_same(shows_least(paper=told, most=most, setting=setting, total=total), True)

    def test_other_limits(self):
        for setting in SOME:
            step = Ratio(1, grid(setting))
            for total, most in ((1, 1), (6, 2), (6, 3), (9, 5000), (200, 7)):
                told = least_limit(total, setting, most)
                for limit in (told.limit - step, told.limit + step, told.limit + 1, told.limit - 1, told.limit + step * 40):
                    lesser = fewest(total, setting, limit - step)
                    belows = [told.below, (total,), lesser.chunks.rests if lesser else lesser.rests]
                    for below in belows:
                        self.is_same(shows_least(total, setting, most, Least(limit, told.chunks, below)), False)
                for limit in (told.limit + Ratio(1, 3 * grid(setting) + 1), told.limit - Ratio(1, 10 ** 9)):
                    self.is_same(shows_least(total, setting, most, Least(limit, told.chunks, told.below)), False)

    def test_limits_off_the_grid(self):
        # All else is right within a limit that is a little more, but it is no multiple of 1 / 3.
        three = Setting(Crew.even(3))
        told = least_limit(10, three, 4)
        for limit in (told.limit + Ratio(1, 6), told.limit + Ratio(1, 10 ** 20)):
            self.assertEqual(str(fewest(10, three, limit).chunks), "4 3 2 1")
            self.is_same(shows_least(10, three, 4, Least(limit, told.chunks, told.below)), False)

    def test_all_small_lists(self):
        for setting in SOME:
            for total in (1, 4, 5):
                for most in (1, 2, 3, 4):
                    told = least_limit(total, setting, most)
                    for sizes in [sizes for other in (total - 1, total, total + 1) for sizes in lists_of(other)]:
                        chunks = Chunks(*sizes)
                        right = (chunks.total == total and len(sizes) <= most
                                 and lateness(chunks, setting) <= told.limit)
                        paper = Least(told.limit, chunks, told.below)
                        self.is_same(shows_least(total, setting, most, paper), right)

    def test_all_small_rests(self):
        for setting in SOME:
            lesser_step = Ratio(1, grid(setting))
            for total in (1, 3, 4):
                for most in (1, 2, 3):
                    told = least_limit(total, setting, most)
                    lesser = told.limit - lesser_step
                    for length in range(1, 6):
                        for rests in falling(total, length):
                            right = are_right_rests(rests, setting, lesser)
                            right = right and (length == most + 1 or is_stuck(rests, setting, lesser))
                            paper = Least(told.limit, told.chunks, rests)
                            self.is_same(shows_least(total, setting, most, paper), right)

    def test_rests_that_are_none(self):
        three = Setting(Crew.even(3))
        told = least_limit(10, three, 4)
        self.assertEqual((str(told.limit), told.below), ("1", (10, 6, 4, 2, 1)))
        self.is_same(shows_least(10, three, 4, Least(told.limit, told.chunks, (10, 6, 4, 2, 1))), True)
        for below in ((10, 6, 4, 2), (10, 6, 4, 2, 0), (9, 6, 4, 2, 1), (10, 6, 7, 2, 1), (10, 6, 4, 2, 1, 1), (),
                      [10, 6, 4, 2, 1], (10, 6, 4, 2, True), (10, 6, 4, 2, Ratio(1)), (10, 6, 4, 3, 2), None, 10,
                      (10, 7, 4, 2, 1), (10, 6, 5, 2, 1), (10, 6, 4, 2, 2)):
            self.is_same(shows_least(10, three, 4, Least(told.limit, told.chunks, below)), False)
        # Less than the greedy rests, each still out of reach.
        for below in ((10, 5, 3, 1, 1), (10, 6, 3, 1, 1), (10, 1, 1, 1, 1)):
            right = are_right_rests(below, three, Ratio(2, 3))
            self.is_same(shows_least(10, three, 4, Least(told.limit, told.chunks, below)), right)

    def test_longer_rests_and_5001_of_them(self):
        told = least_limit(GREAT, SLOW)
        self.assertEqual(len(told.below), 5001)
        self.is_same(shows_least(GREAT, SLOW, 5000, told), True)
        longer = Least(told.limit, told.chunks, (*told.below, told.below[-1]))
        self.is_same(shows_least(GREAT, SLOW, 5000, longer), False)
        # From one item of a fee nothing is let, so it can stand as often as a list is long.
        paid = Setting(Crew.even(2), fee=1)
        told = least_limit(4, paid, 3)
        for length, right in ((3, True), (4, True), (5001, True), (5002, False)):
            below = (4, 2) + (1,) * (length - 2)
            self.is_same(shows_least(4, paid, 3, Least(told.limit, told.chunks, below)), right)

    def test_other_arguments(self):
        three = Setting(Crew.even(3))
        told = least_limit(10, three, 4)
        for total, setting, most in ((9, three, 4), (11, three, 4), (10, three, 3), (10, three, 5), (10, three, 5000),
                                     (10, Setting(Crew.even(2)), 4), (10, three.with_fee(1), 4)):
            self.is_same(shows_least(total, setting, most, told), False)

    def test_values_of_all_kinds(self):
        three = Setting(Crew.even(3))
        told = least_limit(10, three, 4)
        for value in everything():
            if not (type(value) is Ratio and value == 1):
                self.is_same(shows_least(10, three, 4, Least(value, told.chunks, told.below)), False)
            for paper in (value, Least(told.limit, value, told.below), Least(told.limit, told.chunks, value)):
                self.is_same(shows_least(10, three, 4, paper), False)
        self.is_same(shows_least(10, three, 4, Least(1, told.chunks, told.below)), False)
        self.is_same(shows_least(10, three, 4, Least(Ratio(1), told.chunks, told.below)), True)

    def test_wrong_arguments(self):
        setting = Setting(Crew.even(2))
        paper = least_limit(5, setting)
        for value in integers_but(1, GREAT):
            self.raises(BadTotal(value), shows_least, value, None, 0, None)
        for value in but(Setting):
            self.raises(BadSetting("setting"), shows_least, 5, value, 0, paper)
        for value in integers_but(1, 5000):
            self.raises(BadChunks("most"), shows_least, 5, setting, value, paper)
