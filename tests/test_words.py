"""Words that write integers, and texts read word by word."""

from latechunks.errors import BadText
from latechunks.words import Reader, integer_of, integer_text, number_of, read_named, read_worths
from tests.helper import Case, everything

NEAR = ["", " ", "-", "--1", "+1", "+0", "-0", "00", "01", "-01", "007", " 1", "1 ", "1\n", "\n1", "1 2", "1_000", "_1",
        "1_", "1.0", "1e3", "0x1", "0b1", "1/2", "1-", "a", "one", "None", "True", "1,000", "- 1", "1-2", "(1)", "~1"]


class NumberOfTest(Case):
    def test_all_integers_within(self):
        for least, most in ((-12, 120), (0, 9), (5, 5), (-3, -1), (10 ** 30 - 3, 10 ** 30)):
            for value in range(least - 30, most + 31):
                expected = value if least <= value <= most else None
                self.is_same(number_of(str(value), least, most), expected)
                self.is_same(number_of(most=most, word=str(value), least=least), expected)

    def test_great_integers(self):
        for value in (10 ** 30, -10 ** 30, 10 ** 49, 10 ** 50 - 1, -(10 ** 50 - 1), 10 ** 59, 10 ** 60, 10 ** 60 + 7):
            self.is_same(number_of(str(value), value, value), value)
            self.is_same(number_of(str(value), value - 5, value - 1), None)
            self.is_same(number_of(str(value), value + 1, value + 5), None)

    def test_near_misses(self):
        for word in NEAR + ["\u00b2", "\u0663", "\uff11"]:
            self.is_same(number_of(word, -10 ** 49, 10 ** 49), None)

    def test_what_is_no_string(self):
        for value in everything():
            if type(value) is not str:
                self.is_same(number_of(value, -10 ** 49, 10 ** 49), None)

    def test_very_long_words(self):
        for word in ("9" * 30000, "-" + "9" * 29999, "0" * 30000, "x" * 30000, "1" + "0" * 4300):
            self.is_same(number_of(word, -10 ** 49, 10 ** 49), None)

    def test_no_bounds_that_fit(self):
        self.is_same(number_of("5", 6, 4), None)


class LongIntegersTest(Case):
    def test_there_and_back(self):
        for figures in (1, 2, 59, 60, 61, 119, 120, 121, 180, 300, 900):
            for value in (10 ** figures - 1, 10 ** figures, 10 ** figures + 1, 10 ** figures // 7, 3 * 10 ** (figures - 1)):
                for number in (value, -value):
                    self.assertEqual(integer_text(number), str(number))
                    self.is_same(integer_of(str(number)), number)

    def test_longer_than_python_writes(self):
        word = "7" + "0" * 5000 + "3" * 4999
        value = 7 * 10 ** 9999 + (10 ** 4999 - 1) // 3
        self.is_same(integer_of(word), value)
        self.is_same(integer_of("-" + word), -value)
        self.assertEqual([integer_text(value), integer_text(-value)], [word, "-" + word])

    def test_small_ones(self):
        for value in range(-1100, 1100):
            self.assertEqual(integer_text(value), str(value))
            self.is_same(integer_of(str(value)), value)

    def test_near_misses(self):
        for word in NEAR:
            self.is_same(integer_of(word), None)


class ReaderTest(Case):
    def test_no_string(self):
        for value in everything():
            if type(value) is not str:
                self.raises(BadText(0, 0), Reader, value)

    def test_words_are_parted_at_single_spaces(self):
        reader = Reader("a  b")
        told = [reader.take(reader.at_hand()) for _ in range(3)]
        self.assertEqual((told, reader.at_hand()), (["a", "", "b"], None))
        self.assertEqual(Reader("").at_hand(), "")

    def test_the_first_word_that_cannot_stand(self):
        reader = Reader("5 x")
        self.assertEqual(reader.integer(0, 9), 5)
        self.raises(BadText(0, 1), reader.integer, 0, 9)
        self.raises(BadText(0, 1), reader.expect, "/")
        self.raises(BadText(0, 1), reader.finish)
        reader.expect("x")
        reader.finish()
        self.raises(BadText(0, 2), reader.expect, "x")

    def test_rows_end_at_a_stroke(self):
        reader = Reader("1 2 / a 1 b 2")
        self.assertEqual(read_worths(reader, integer_of), [1, 2])
        reader.expect("/")
        self.assertEqual(read_named(reader, integer_of), {"a": 1, "b": 2})
        reader.finish()
        self.assertEqual(read_worths(Reader("-"), integer_of), [])

    def test_rows_that_cannot_stand(self):
        for text, word in (("", 0), ("/", 0), ("1 -", 1), ("1 x", 1)):
            self.raises(BadText(0, word), read_worths, Reader(text), integer_of)
        for text, word in (("", 0), ("/", 0), ("a", 1), ("a x", 1), ("b 1 a 1", 2), ("a 1 a 1", 2), ("a 1 b", 3)):
            self.raises(BadText(0, word), read_named, Reader(text), integer_of)
        self.raises(BadText(0, 4), read_named, Reader("a 1 b 1 c 1"), integer_of, 2)
