"""Settings, and how late chunks can be in them."""

from fractions import Fraction

from latechunks.chunks import Chunks
from latechunks.crews import Crew
from latechunks.errors import BadChunks, BadCost, BadFee, BadLimit, BadRest, BadSetting, BadSize, BadText
from latechunks.ratios import Ratio
from latechunks.settings import Setting
from tests.helper import Case, but, everything
from tests.test_chunks import lists_of

GREAT = 10 ** 30
CREWS = [Crew(a=1), Crew.even(2), Crew(a=1, b=3), Crew(a=2, b=5, c=7), Crew.even(8, 60), Crew(a=60, b=1)]
SETTINGS = [Setting(crew, least, most, fee) for crew in CREWS for least, most in ((1, 1), (1, 2), (3, 7), (60, 60))
            for fee in (0, 1, 5)]


def late(setting, rest, place, size):
    """Late, told as the document tells it."""
    speeds = [speed for _, speed in setting.crew]
    ahead = place * setting.fee * max(speeds) - setting.most * size - setting.least * (rest - size)
    behind = Fraction(ahead, sum(speeds)) if ahead <= 0 else Fraction(ahead, max(speeds))
    return setting.fee + Fraction(setting.most * size, min(speeds)) + behind


def lateness(setting, sizes):
    chunks = Chunks(*sizes)
    return Ratio.greatest([setting.late_of(rest, place, size)
                           for place, (rest, size) in enumerate(zip(chunks.rests, chunks))])


def exact(ratio):
    return Fraction(ratio.over, ratio.under)


def integers_but(least, most):
    return [value for value in everything() if type(value) is not int or not least <= value <= most]


class MadeTest(Case):
    def test_attributes(self):
        crew = Crew(a=1, b=3)
        for setting in (Setting(crew, 2, 60, GREAT), Setting(fee=GREAT, most=60, crew=crew, least=2)):
            self.assertIs(setting.crew, crew)
            self.assertEqual((setting.least, setting.most, setting.fee), (2, 60, GREAT))
        plain = Setting(crew)
        self.assertEqual((plain.least, plain.most, plain.fee), (1, 1, 0))

    def test_lowest(self):
        for setting in SETTINGS:
            self.assertIs(type(setting.lowest), Ratio)
            self.assertEqual(exact(setting.lowest), late(setting, 1, 0, 1))
            for total in range(1, 6):
                for sizes in lists_of(total):
                    self.assertTrue(setting.lowest <= lateness(setting, sizes))

    def test_wrong_arguments(self):
        crew = Crew(a=1)
        for value in but(Crew):
            self.raises(BadSetting("crew"), Setting, value, 0, 0, -1)
        for value in integers_but(1, 60):
            self.raises(BadCost(value), Setting, crew, value, 0, -1)
            self.raises(BadCost(value), Setting, crew, most=value)
        for value in integers_but(7, 60):
            self.raises(BadCost(value), Setting, crew, 7, value, -1)
        for value in integers_but(0, GREAT):
            self.raises(BadFee(value), Setting, crew, 1, 1, value)
        self.assertEqual(Setting(crew, 60, 60, GREAT).fee, GREAT)


class LateOfTest(Case):
    def test_both_cases(self):
        for setting in SETTINGS:
            for rest in range(1, 7):
                for place in range(4):
                    for size in range(1, rest + 1):
                        told = setting.late_of(rest, place, size)
                        self.assertIs(type(told), Ratio)
                        self.assertEqual(exact(told), late(setting, rest, place, size))
                        self.assertEqual(setting.late_of(size=size, place=place, rest=rest), told)

    def test_by_hand(self):
        paid = Setting(Crew(a=1, b=3), fee=1)
        self.assertEqual(str(paid.late_of(2, 1, 2)), "10/3")
        self.assertEqual(str(paid.late_of(2, 1, 1)), "7/3")
        self.assertEqual(str(paid.late_of(4, 1, 1)), "7/4")
        self.assertEqual(str(paid.late_of(3, 1, 3)), "4")

    def test_great_numbers(self):
        setting = Setting(Crew(a=1, b=60, c=7), 1, 60, GREAT)
        for rest in (1, GREAT, 10 ** 49, 5 * 10 ** 33):
            for place in (0, 1, 4999, 10 ** 49):
                for size in {1, rest // 2 or 1, rest}:
                    self.assertEqual(exact(setting.late_of(rest, place, size)), late(setting, rest, place, size))

    def test_how_it_rises(self):
        for setting in SETTINGS:
            for rest in range(1, 8):
                for place in range(4):
                    for size in range(1, rest + 1):
                        here = setting.late_of(rest, place, size)
                        self.assertTrue(size == rest or here < setting.late_of(rest, place, size + 1))
                        self.assertTrue(here <= setting.late_of(rest, place + 1, size))
                        self.assertTrue(here >= setting.late_of(rest + 1, place, size))

    def test_wrong_arguments(self):
        setting = Setting(Crew(a=1, b=3), fee=1)
        for value in integers_but(1, 10 ** 60):
            self.raises(BadRest(value), setting.late_of, value, -1, 0)
            self.raises(BadRest(value), setting.let, value, -1, None)
        for value in integers_but(0, 10 ** 60):
            self.raises(BadChunks("place"), setting.late_of, 5, value, 0)
            self.raises(BadChunks("place"), setting.let, 5, value, None)
        for value in integers_but(1, 2):
            self.raises(BadSize(value), setting.late_of, 2, 0, value)
        for value in but(int, Ratio):
            self.raises(BadLimit(value), setting.let, 5, 0, value)
            self.raises(BadLimit(value), setting.let, limit=value, rest=1, place=7)


class LetTest(Case):
    def let(self, setting, rest, place, limit):
        return max([0] + [size for size in range(1, rest + 1) if late(setting, rest, place, size) <= limit])

    def test_the_greatest_size_within(self):
        limits = [Fraction(over, under) for over in (-9, -1, 0, 1, 2, 3, 5, 8, 20, 77, 300) for under in (1, 2, 3, 7, 60)]
        for setting in SETTINGS[::2] + SETTINGS[1::10]:
            for rest in (1, 2, 3, 7):
                for place in (0, 1, 3):
                    for limit in limits:
                        told = setting.let(rest, place, Ratio(*limit.as_integer_ratio()))
                        self.is_same(told, self.let(setting, rest, place, limit))

    def test_limits_at_a_late(self):
        for setting in SETTINGS:
            for rest, place in ((1, 0), (4, 0), (4, 2), (9, 1)):
                for size in range(1, rest + 1):
                    limit = setting.late_of(rest, place, size)
                    self.is_same(setting.let(rest, place, limit), size)
                    self.is_same(setting.let(rest, place, limit - Ratio(1, 10 ** 40)), size - 1)
                    self.is_same(setting.let(rest, place, limit + Ratio(1, 10 ** 40)), size)
                self.is_same(setting.let(limit=10 ** 49, place=place, rest=rest), rest)
                self.is_same(setting.let(rest, place, -10 ** 49), 0)

    def test_integers_as_limits(self):
        for setting in SETTINGS[::5]:
            for limit in (-2, -1, 0, 1, 2, 9, 80):
                self.is_same(setting.let(6, 1, limit), self.let(setting, 6, 1, Fraction(limit)))

    def test_great_numbers(self):
        setting = Setting(Crew(a=1, b=60, c=7), 1, 60, GREAT)
        for rest in (GREAT, 10 ** 49):
            for place in (0, 3, 4999):
                for limit in (10 ** 34, Ratio(10 ** 49, 7), 10 ** 49):
                    size = setting.let(rest, place, limit)
                    self.assertTrue(size == 0 or late(setting, rest, place, size) <= exact(Ratio.of(limit)))
                    self.assertTrue(size == rest or late(setting, rest, place, size + 1) > exact(Ratio.of(limit)))

    def test_one_item_more(self):
        for setting in SETTINGS:
            for place in (0, 2):
                for limit in (1, 4, Ratio(29, 2)):
                    told = [setting.let(rest, place, limit) for rest in range(1, 40)]
                    for one, other in zip(told, told[1:]):
                        self.assertTrue(other - one <= 1)


class PartsTest(Case):
    def test_straight(self):
        for setting in SETTINGS:
            if setting.fee:
                self.raises(BadSetting("fee"), setting.straight)
                continue
            told = setting.straight()
            self.assertIs(type(told), tuple)
            self.assertEqual([type(part) for part in told], [Ratio, Ratio])
            for rest in range(1, 6):
                for size in range(1, rest + 1):
                    for place in (0, 3):
                        self.assertEqual(told[0] * size - told[1] * rest, setting.late_of(rest, place, size))

    def test_straight_by_hand(self):
        self.assertEqual([str(part) for part in Setting(Crew.even(2), 1, 2).straight()], ["3/2", "1/2"])
        self.assertEqual([str(part) for part in Setting(Crew(a=1, b=3), 1, 3).straight()], ["5/2", "1/4"])

    def test_the_order(self):
        some = SETTINGS[::4] + [Setting(Crew(a=1, b=1, c=1), 1, 7, 2), Setting(Crew(a=1, b=1), 1, 2, 2)]
        for one in some:
            for other in some:
                within = (one.crew <= other.crew and other.least <= one.least and one.most <= other.most
                          and one.fee <= other.fee)
                self.is_same(one <= other, within)
                self.is_same(one < other, within and str(one) != str(other))
        for value in but(Setting):
            self.raises(BadSetting("other"), lambda: SETTINGS[0] <= value)
            self.raises(BadSetting("other"), lambda: SETTINGS[0] < value)

    def test_each_part_of_the_order(self):
        crew, more = Crew(a=1), Crew(a=1, b=2)
        least = Setting(crew, 5, 6, 1)
        greater = [Setting(more, 5, 6, 1), Setting(crew, 4, 6, 1), Setting(crew, 5, 7, 1), Setting(crew, 5, 6, 2)]
        for setting in greater:
            self.assertEqual((least <= setting, least < setting, setting <= least), (True, True, False))
        self.assertEqual((least <= least, least < least), (True, False))

    def test_a_lesser_setting_is_no_later(self):
        settings = [Setting(crew, least, most, fee) for crew in (Crew(a=2), Crew(a=2, b=5), Crew(a=2, b=5, c=1))
                    for least, most in ((3, 4), (1, 4), (1, 9)) for fee in (0, 2)]
        for one in settings:
            for other in settings:
                if one <= other:
                    for sizes in lists_of(5):
                        self.assertTrue(lateness(one, sizes) <= lateness(other, sizes))

    def test_a_finer_list_is_no_later_without_a_fee(self):
        for setting in SETTINGS[::3]:
            for one in lists_of(5):
                for other in lists_of(5):
                    if setting.fee == 0 and Chunks(*one) <= Chunks(*other):
                        self.assertTrue(lateness(setting, one) <= lateness(setting, other))

    def test_with_other_parts(self):
        setting, crew = Setting(Crew(a=1, b=3), 2, 5, 7), Crew(c=9)
        for told in (setting.with_crew(crew), setting.with_crew(crew=crew)):
            self.assertEqual(told, Setting(crew, 2, 5, 7))
        for told in (setting.with_costs(1, 60), setting.with_costs(most=60, least=1)):
            self.assertEqual(told, Setting(setting.crew, 1, 60, 7))
        for told in (setting.with_fee(0), setting.with_fee(fee=0)):
            self.assertEqual(told, Setting(setting.crew, 2, 5, 0))
        self.assertEqual(str(setting), "a 1 b 3 / 2 5 / 7")
        self.assertEqual(setting.with_fee(0).lowest, Setting(setting.crew, 2, 5).lowest)
        for value in but(Crew):
            self.raises(BadSetting("crew"), setting.with_crew, value)
        for value in integers_but(1, 60):
            self.raises(BadCost(value), setting.with_costs, value, None)
        for value in integers_but(7, 60):
            self.raises(BadCost(value), setting.with_costs, 7, value)
        for value in integers_but(0, GREAT):
            self.raises(BadFee(value), setting.with_fee, value)
        self.assertEqual(str(setting), "a 1 b 3 / 2 5 / 7")

    def test_equal_beside_any_value(self):
        one = Setting(Crew(a=1, b=2), 1, 2, 3)
        for value in everything() + SETTINGS:
            expected = type(value) is Setting and str(value) == "a 1 b 2 / 1 2 / 3"
            self.is_same(one == value, expected)
            self.is_same(one != value, not expected)
        for other in (one.with_crew(Crew(a=1)), one.with_costs(2, 2), one.with_costs(1, 3), one.with_fee(4)):
            self.assertFalse(one == other)


class TextTest(Case):
    def test_there_and_back(self):
        for setting in SETTINGS + [Setting(Crew.even(8), 1, 60, GREAT)]:
            text = f"{setting.crew} / {setting.least} {setting.most} / {setting.fee}"
            self.is_same(str(setting), text)
            self.assertEqual((Setting.read(text), Setting.read(text=text)), (setting, setting))

    def test_words_that_cannot_stand(self):
        eight = str(Crew.even(8))
        wrong = {"": 0, "/": 0, "a": 1, "a 1": 2, "a 1 /": 3, "a 1 / 1": 4, "a 1 / 1 1": 5, "a 1 / 1 1 /": 6, "a 1 b": 3,
                 "a 1 / 1 1 / 0 0": 7, "a 1 / 1 1 / 0 ": 7, "a 1 / 0 1 / 0": 3, "a 1 / 61 61 / 0": 3, "a 1 / 2 1 / 0": 4,
                 "a 1 / 1 61 / 0": 4, "a 1 / 1 1 / -1": 6, f"a 1 / 1 1 / {GREAT + 1}": 6, "a 1 / 1 1 / 00": 6,
                 "a 1 / 1 / 0": 4, "a 1 1 1 / 0": 2, "a 0 / 1 1 / 0": 1, "b 1 a 1 / 1 1 / 0": 2, "a 1  / 1 1 / 0": 2,
                 "a 1 / 1 1 0": 5, "a 1 / 1 1 1 / 0": 5, "a 1 / 1 1 / 0 /": 7, "a 1/ 1 1 / 0": 1, "a 1 / x": 3,
                 eight + " i 1 / 1 1 / 0": 16, eight + " / 1 1 / x": 20, "a 1 / 1 1 / 0\n": 6, "- / 1 1 / 0": 0}
        for text, word in wrong.items():
            self.raises(BadText(0, word), Setting.read, text)

    def test_what_is_no_text(self):
        for value in but(str):
            self.raises(BadText(0, 0), Setting.read, value)
            self.raises(BadText(0, 0), Setting.read, text=value)
