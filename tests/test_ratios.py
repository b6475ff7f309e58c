"""Fractions, beside those of Python's own library."""

from fractions import Fraction
from math import gcd

from latechunks.errors import BadRatio, BadText
from latechunks.ratios import Ratio
from tests.helper import Case, objects, values

UNITS = [(over, under) for over in range(-7, 8) for under in range(-4, 5) if under != 0]
GREAT = [(10 ** 49 + 9, 10 ** 48 + 7), (-10 ** 49, 3), (7, 10 ** 49), (6 * 10 ** 40, 4 * 10 ** 41), (1, -10 ** 49)]
INTEGERS = [-10 ** 49, -5, -2, -1, 0, 1, 2, 3, 7, 10 ** 49]
OTHERS = [value for value in values() if not (type(value) is int or isinstance(value, Ratio))]


def exact(ratio):
    return Fraction(ratio.over, ratio.under)


class MadeTest(Case):
    def test_least_terms(self):
        for over, under in UNITS + GREAT:
            for ratio in (Ratio(over, under), Ratio(under=under, over=over)):
                self.assertEqual((ratio.over, ratio.under), Fraction(over, under).as_integer_ratio())
                self.assertTrue(ratio.under > 0 and gcd(ratio.over, ratio.under) == 1)

    def test_under_is_one_by_itself(self):
        self.assertEqual((Ratio(7).over, Ratio(7).under, Ratio(over=0).under, Ratio(0, -5).under), (7, 1, 1, 1))

    def test_wrong_parts(self):
        for value in values():
            if type(value) is not int:
                self.raises(BadRatio(value), Ratio, value)
                self.raises(BadRatio(value), Ratio, 1, value)
                self.raises(BadRatio(value), Ratio, over=value, under=0)
        self.raises(BadRatio(0), Ratio, 1, 0)
        self.raises(BadRatio(0), Ratio, under=0, over=0)
        self.raises(BadRatio(True), Ratio, True, None)


class SumsTest(Case):
    def pairs(self):
        ratios = [Ratio(over, under) for over, under in UNITS[::3] + GREAT]
        for one in ratios:
            for other in ratios:
                yield one, other, exact(one), exact(other)
            for other in INTEGERS:
                yield one, other, exact(one), Fraction(other)
                yield other, one, Fraction(other), exact(one)

    def test_sums_differences_and_products(self):
        for one, other, first, second in self.pairs():
            for told, right in ((one + other, first + second), (one - other, first - second), (one * other, first * second)):
                self.assertIs(type(told), Ratio)
                self.assertEqual((told.over, told.under), right.as_integer_ratio())

    def test_quotients_and_rests(self):
        for one, other, first, second in self.pairs():
            if second > 0:
                self.is_same(one // other, first // second)
                self.assertIs(type(one % other), Ratio)
                self.assertEqual(exact(one % other), first % second)
                self.assertEqual(exact(Ratio.of(one)), (one // other) * second + exact(one % other))
            else:
                self.raises(BadRatio(other), lambda: one // other)
                self.raises(BadRatio(other), lambda: one % other)

    def test_the_order(self):
        for one, other, first, second in self.pairs():
            self.is_same(one < other, first < second)
            self.is_same(one <= other, first <= second)
            self.is_same(one > other, first > second)
            self.is_same(one >= other, first >= second)
            self.is_same(one == other, first == second)
            self.is_same(one != other, first != second)

    def test_other_values_beside_a_ratio(self):
        one = Ratio(1, 2)
        for value in OTHERS:
            self.raises(BadRatio(value), lambda: one + value)
            self.raises(BadRatio(value), lambda: value + one)
            self.raises(BadRatio(value), lambda: one - value)
            self.raises(BadRatio(value), lambda: value - one)
            self.raises(BadRatio(value), lambda: one * value)
            self.raises(BadRatio(value), lambda: value * one)
            self.raises(BadRatio(value), lambda: one // value)
            self.raises(BadRatio(value), lambda: one % value)
            self.raises(BadRatio(value), lambda: one < value)
            self.raises(BadRatio(value), lambda: value < one)
            self.raises(BadRatio(value), lambda: one <= value)
            self.raises(BadRatio(value), lambda: value <= one)
            self.raises(BadRatio(value), lambda: one > value)
            self.raises(BadRatio(value), lambda: value > one)
            self.raises(BadRatio(value), lambda: one >= value)
            self.raises(BadRatio(value), lambda: value >= one)

    def test_objects_of_the_package_on_the_right(self):
        one = Ratio(1, 2)
        for value in objects():
            self.raises(BadRatio(value), lambda: one + value)
            self.raises(BadRatio(value), lambda: one - value)
            self.raises(BadRatio(value), lambda: one * value)
            self.raises(BadRatio(value), lambda: one // value)
            self.raises(BadRatio(value), lambda: one % value)
            self.raises(BadRatio(value), lambda: one < value)
            self.raises(BadRatio(value), lambda: one <= value)
            self.raises(BadRatio(value), lambda: one > value)
            self.raises(BadRatio(value), lambda: one >= value)
            self.raises(BadRatio(value), Ratio.of, value)
            self.raises(BadRatio(value), Ratio.greatest, [one, value])
            self.is_same(one == value, False)
            self.is_same(value == one, False)

    def test_what_is_wrong_on_the_right_comes_first(self):
        for right in (Ratio(0), Ratio(-1, 2)):
            for left in (None, True, [1], (), {}, 5, Ratio(1, 2)):
                self.raises(BadRatio(right), lambda: left // right)
                self.raises(BadRatio(right), lambda: left % right)
        self.raises(BadRatio(True), lambda: True // Ratio(1))
        self.raises(BadRatio(None), lambda: None % Ratio(1))

    def test_wrong_integers_on_the_right(self):
        for value in (0, -1, -10 ** 49):
            self.raises(BadRatio(value), lambda: Ratio(7, 2) // value)
            self.raises(BadRatio(value), lambda: Ratio(7, 2) % value)

    def test_in_place(self):
        one, other = Ratio(7, 2), Ratio(2, 3)
        kept = one
        one += other
        one -= 1
        one *= 2
        self.assertEqual((str(one), str(kept), str(other)), ("19/3", "7/2", "2/3"))
        one //= other
        self.is_same(one, 9)
        one %= other
        one += Ratio(1, 3)
        self.assertEqual((str(one), str(kept), str(other)), ("2/3", "7/2", "2/3"))
        number = 5
        number -= other
        self.assertEqual((str(number), str(other)), ("13/3", "2/3"))
        number = 5
        number //= other
        self.is_same(number, 7)

    def test_in_place_with_other_values(self):
        for value in OTHERS:
            one = Ratio(1, 2)
            with self.assertRaises(BadRatio):
                one += value
            with self.assertRaises(BadRatio):
                value *= one
            self.assertEqual(str(one), "1/2")

    def test_minus(self):
        for over, under in UNITS + GREAT:
            self.assertIs(type(-Ratio(over, under)), Ratio)
            self.assertEqual(exact(-Ratio(over, under)), -Fraction(over, under))

    def test_sums_of_many_figures(self):
        one, right = Ratio(1), Fraction(1)
        for over, under in GREAT * 20:
            one, right = one * Ratio(over, under) + 1, right * Fraction(over, under) + 1
        self.assertEqual((one.over, one.under), right.as_integer_ratio())
        self.is_same(one > Ratio.of(10 ** 49), right > 10 ** 49)


class WorthTest(Case):
    def test_equal_beside_any_value(self):
        for ratio, equal in ((Ratio(1), [1, Ratio(1)]), (Ratio(0), [0, Ratio(0)]), (Ratio(1, 2), [Ratio(1, 2)])):
            for value in values():
                expected = any(same is value or (type(same) is type(value) and str(same) == str(value)) for same in equal)
                self.is_same(ratio == value, expected)
                self.is_same(value == ratio, expected)
                self.is_same(ratio != value, not expected)
        self.assertEqual([Ratio(4, 2) == 2, Ratio(1) == True, Ratio(0) == False, Ratio(3, 2) == 1], [True, False, False, False])
        self.assertTrue(Ratio(3, 6) == Ratio(-1, -2) and 10 ** 49 == Ratio(10 ** 49))

    def test_truth(self):
        for over, under in UNITS + GREAT:
            self.is_same(bool(Ratio(over, under)), over != 0)

    def test_floor_and_ceiling(self):
        for over, under in UNITS + GREAT:
            self.is_same(Ratio(over, under).floor(), Fraction(over, under).__floor__())
            self.is_same(Ratio(over, under).ceiling(), Fraction(over, under).__ceil__())
        told = [(Ratio(over, 2).floor(), Ratio(over, 2).ceiling()) for over in (-4, -3, -1, 0, 1, 3, 4)]
        self.assertEqual(told, [(-2, -2), (-2, -1), (-1, 0), (0, 0), (0, 1), (1, 2), (2, 2)])


class TextTest(Case):
    def test_there_and_back(self):
        for over, under in UNITS + GREAT + [(10 ** 50 - 1, 10 ** 49), (0, 5)]:
            ratio = Ratio(over, under)
            self.assertEqual(str(ratio), str(Fraction(over, under)))
            for back in (Ratio.read(str(ratio)), Ratio.read(text=str(ratio))):
                self.assertIs(type(back), Ratio)
                self.assertEqual((back.over, back.under), (ratio.over, ratio.under))

    def test_near_texts(self):
        near = ["", " ", "-", "/", "1/", "/2", "-/2", "1//2", "1/2/3", "--1", "+1", "1/-2", "1/+2", "-1/-2", "-0", "0/1",
                "0/2", "-0/2", "3/1", "-3/1", "2/4", "6/3", "01/2", "1/02", "00", "1/0", "0/0", " 1/2", "1/2 ", "1 / 2",
                "1/2 1/2", "1 2", "1\n", "1_0", "1.5", "a", "None", "1/2\n", "x/2", "1/x", "0x1"]
        for text in near:
            self.raises(BadText(0, 0), Ratio.read, text)

    def test_what_is_no_string(self):
        for value in values():
            if type(value) is not str:
                self.raises(BadText(0, 0), Ratio.read, value)
                self.raises(BadText(0, 0), Ratio.read, text=value)

    def test_the_bound_of_figures(self):
        most, over = "9" * 4000, "1" + "0" * 4000
        even, odd = "1" + "0" * 3999, "9" * 4000
        for text in (most, "-" + most, f"{even}/{odd}", f"-{odd}/{even}", f"1/{most}", f"{most}/2"):
            self.assertEqual(str(Ratio.read(text)), text)
        for text in (over, "-" + over, f"{over}/3", f"1/{over}", f"-1/{over}", f"{over}1/{over}", "1" * 30000):
            self.raises(BadText(0, 0), Ratio.read, text)

    def test_more_figures_than_python_writes(self):
        one = Ratio(1)
        for _ in range(120):
            one = one * Ratio(10 ** 49)
        self.assertEqual(str(one), "1" + "0" * 5880)
        self.assertEqual(str(Ratio(1, 3) * -one), "-1" + "0" * 5880 + "/3")
        self.assertTrue((one // 7) * 7 + one % 7 == one and one % 7 < 7 and one % 7 >= 0)


class OfTest(Case):
    def test_of(self):
        half = Ratio(1, 2)
        self.assertIs(Ratio.of(half), half)
        for value in INTEGERS:
            self.assertEqual((Ratio.of(value).over, Ratio.of(value=value).under), (value, 1))
        for value in OTHERS:
            self.raises(BadRatio(value), Ratio.of, value)
            self.raises(BadRatio(value), Ratio.of, value=value)

    def test_greatest(self):
        for over, under in UNITS:
            many = [Ratio(over, under), 0, Ratio(1, 3), -1, Ratio(-1, 2)]
            for row in (many, tuple(many), many[::-1], many[:1], [over]):
                told = Ratio.greatest(row)
                self.assertIs(type(told), Ratio)
                self.assertEqual(exact(told), max(exact(Ratio.of(one)) for one in row))
                self.assertEqual(Ratio.greatest(values=row), told)
        self.assertEqual(str(Ratio.greatest([2, Ratio(2), 2])), "2")

    def test_greatest_with_wrong_items(self):
        for value in OTHERS:
            self.raises(BadRatio(value), Ratio.greatest, [1, value, "later"])
            self.raises(BadRatio(value), Ratio.greatest, (value,))
            self.raises(BadRatio(value), Ratio.greatest, values=(Ratio(1), 10 ** 49, value))

    def test_greatest_of_other_values(self):
        for value in values():
            if not isinstance(value, (list, tuple)) or not value:
                self.raises(BadRatio(value), Ratio.greatest, value)
                self.raises(BadRatio(value), Ratio.greatest, values=value)

    def test_greatest_leaves_its_argument(self):
        row = [1, Ratio(1, 2), 3]
        Ratio.greatest(row)
        self.assertEqual(row, [1, Ratio(1, 2), 3])
