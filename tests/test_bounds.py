"""The bounds of sizes that are let: what is ahead of items that are told is asked of late itself."""

from latechunks.bounds import bounds_of, greatest_ahead, greatest_let
from latechunks.ratios import Ratio
from tests.helper import Case
from tests.test_settings import SETTINGS

LIMITS = [Ratio(over, under) for over in (-9, -1, 0, 1, 2, 3, 5, 8, 20, 77, 300) for under in (1, 2, 7)]


class BoundsTest(Case):
    def test_the_greatest_size_ahead_of_items(self):
        for setting in SETTINGS[::2]:
            for limit in LIMITS:
                bounds = bounds_of(setting, limit)
                for left in (0, 1, 2, 9, 10 ** 30):
                    for place in (0, 1, 3):
                        size = greatest_ahead(bounds, left, place)
                        self.assertTrue(size == 0 or setting.late_of(left + size, place, size) <= limit)
                        if size <= 10 ** 30:
                            self.assertTrue(setting.late_of(left + size + 1, place, size + 1) > limit)
                        else:
                            self.assertEqual(size, 10 ** 30 + 1)

    def test_the_greatest_size_of_a_rest(self):
        for setting in SETTINGS[1::2]:
            for limit in LIMITS:
                bounds = bounds_of(setting, limit)
                for rest in (1, 2, 9, 10 ** 30):
                    for place in (0, 1, 3):
                        self.is_same(greatest_let(bounds, rest, place), setting.let(rest, place, limit))
