"""What values are."""

import string

from latechunks.checks import is_integer, is_name, is_size, is_within
from tests.helper import Case, everything

TEXT_WORDS = ["cost", "fee", "none", "order", "ready", "self", "chunks", "crew", "late", "at"]


def plain_integer(value):
    return type(value) is int


class ChecksTest(Case):
    def test_is_integer(self):
        for value in everything():
            self.assertIs(is_integer(value), plain_integer(value), repr(value)[:99])
            self.assertIs(is_integer(value=value), plain_integer(value))

    def test_is_within(self):
        for least, most in ((0, 9), (-3, 3), (1, 10 ** 30), (5, 5), (5, 4), (-10 ** 49, -10 ** 48)):
            beside = [least - 1, least, least + 1, most - 1, most, most + 1]
            for value in everything() + beside:
                expected = plain_integer(value) and least <= value <= most
                self.assertIs(is_within(value, least, most), expected)
                self.assertIs(is_within(most=most, least=least, value=value), expected)

    def test_bools_are_no_integers_within(self):
        self.assertEqual([is_within(True, 0, 1), is_within(False, 0, 1), is_size(True)], [False, False, False])

    def test_is_size(self):
        for value in everything() + [10 ** 30 - 1, 10 ** 30, 10 ** 30 + 1, -10 ** 30]:
            expected = plain_integer(value) and 1 <= value <= 10 ** 30
            self.assertIs(is_size(value), expected)
            self.assertIs(is_size(value=value), expected)
        self.assertEqual([is_size(0), is_size(1), is_size(10 ** 30), is_size(10 ** 30 + 1)], [False, True, True, False])

    def test_names(self):
        for name in list(string.ascii_lowercase) + ["ab", "zz", "abcdefgh", "zyxwvuts", "cos", "costs", "fees", "ta"]:
            self.assertIs(is_name(name), True, name)
            self.assertIs(is_name(value=name), True)

    def test_words_of_the_texts_are_no_names(self):
        for word in TEXT_WORDS:
            self.assertIs(is_name(word), False, word)
            self.assertIs(is_name(word + "z"), len(word) < 8)

    def test_no_names(self):
        near = ["", "abcdefghi", "A", "aB", "a1", "1", "a b", " a", "a ", "a\n", "a_", "-", "/", "`", "{", "z" * 30000]
        for value in near + [value for value in everything() if type(value) is not str]:
            self.assertIs(is_name(value), False, repr(value)[:99])
