"""Rules: wishes, chunks, lists and texts."""

from itertools import product
from math import lcm

from latechunks.chunks import Chunks
from latechunks.crews import Crew
from latechunks.errors import BadRest, BadRule, BadSize, BadSpeed, BadText, BadTotal, LateError, TooMany
from latechunks.rules import By, Divided, Fixed, Greater, Lesser, Rule
from tests.helper import Case, a_function, but, everything
from tests.test_settings import integers_but

GREAT = 10 ** 30
RESTS = [*range(1, 40), 99, 100, 101, 1000, GREAT - 1, GREAT, GREAT + 1, 10 ** 49 + 7, 10 ** 80]
RULES = [Fixed(1), Fixed(7), Fixed(GREAT), Divided(0, 0, 1), Divided(0, -1000, 24), Divided(24, 1000, 1),
         Divided(24, -1000, 23), Divided(1, 1, 2), Divided(1, -8, 4), Divided(3, 0, 1), Divided(1, 0, 1),
         Divided(5, -20, 3), Divided.up(24), Divided.up(1)]
JOINED = [one & other for one in RULES[::3] for other in RULES[1::3]] + [one | other for one in RULES for other in RULES[::4]]
DEEP = [(JOINED[0] | JOINED[3]) & RULES[7], RULES[1] & (JOINED[8] | JOINED[20]), JOINED[9] & JOINED[5] & RULES[11],
        Lesser(Greater(Lesser(Fixed(9), Divided.up(4)), Divided.up(9)), Greater(Fixed(3), Divided(2, -7, 5)))]
ALL = RULES + JOINED + DEEP


def wish(rule, rest):
    """The wish, told as the document tells it, by the text of the rule."""
    words = str(rule).split(" ")

    def told():
        word = words.pop(0)
        if word == "fixed":
            return int(words.pop(0))
        if word == "divided":
            x, y, w = int(words.pop(0)), int(words.pop(0)), int(words.pop(0))
            return (x * rest + y) // w
        one, sign, other, _ = told(), words.pop(0), told(), words.pop(0)
        return min(one, other) if sign == "&" else max(one, other)

    return told()


class WishTest(Case):
    def test_wishes_and_chunks(self):
        for rule in ALL:
            for rest in RESTS:
                told = wish(rule, rest)
                self.is_same(rule.wish(rest), told)
                self.is_same(rule.wish(rest=rest), told)
                chunk = 1 if told < 1 else rest if told > rest else told
                self.is_same(rule(rest), chunk)
                self.is_same(rule(rest=rest), chunk)
                self.assertTrue(1 <= chunk <= rest)

    def test_by_hand(self):
        self.assertEqual([Fixed(4).wish(2), Fixed(4)(2), Fixed(4)(4), Fixed(4)(5)], [4, 2, 4, 4])
        self.assertEqual([Divided(2, -5, 3).wish(rest) for rest in (1, 2, 3, 4, 9)], [-1, -1, 0, 1, 4])
        self.assertEqual([Divided(2, -5, 3)(rest) for rest in (1, 2, 3, 4, 9)], [1, 1, 1, 1, 4])
        rule = (Fixed(4) | Divided(1, 0, 2)) & Divided(1, -3, 1)
        self.assertEqual([rule.wish(rest) for rest in (1, 4, 8, 10)], [-2, 1, 4, 5])

    def test_rests_that_are_none(self):
        for rule in ALL[::5] + DEEP + [By(a_function)]:
            for value in integers_but(1, 10 ** 60):
                self.raises(BadRest(value), rule, value)
                self.raises(BadRest(value), rule.wish, value)
                self.raises(BadRest(value), rule.wish, rest=value)

    def test_up(self):
        for w in range(1, 25):
            self.assertEqual(Divided.up(w), Divided(1, w - 1, w))
            self.assertEqual(Divided.up(w=w), Divided(1, w - 1, w))
            for rest in range(1, 60):
                self.assertEqual(Divided.up(w)(rest), -(-rest // w))


class MadeTest(Case):
    def test_attributes(self):
        for rule in (Fixed(7), Fixed(size=7)):
            self.assertEqual((rule.size, rule.parts, rule.modulus), (7, (Fixed(7),), 1))
        for rule in (Divided(3, -9, 7), Divided(w=7, y=-9, x=3)):
            self.assertEqual((rule.x, rule.y, rule.w, rule.parts, rule.modulus), (3, -9, 7, (Divided(3, -9, 7),), 7))
        by = By(function=a_function)
        self.assertIs(by.function, a_function)
        self.assertEqual((by.parts, by.modulus, By(a_function).parts), ((), 1, ()))
        one, other = Divided(1, 0, 4) & Fixed(2), Divided(1, 0, 6)
        for kind in (Lesser, Greater):
            for rule in (kind(one, other), kind(other=other, one=one)):
                self.assertIs(rule.one, one)
                self.assertIs(rule.other, other)
                self.assertEqual((rule.parts, rule.modulus), ((Divided(1, 0, 4), Fixed(2), Divided(1, 0, 6)), 12))
                self.assertIs(type(rule.parts), tuple)
        for rule in ALL:
            self.assertTrue(isinstance(rule, Rule))
            parts = [Rule.read(part) for part in parts_of(str(rule))]
            self.assertEqual(list(rule.parts), parts)
            self.is_same(rule.modulus, lcm(*[part.w for part in parts if type(part) is Divided]))

    def test_operators(self):
        for one, other in ((Fixed(1), Divided(1, 0, 2)), (JOINED[3], RULES[4]), (RULES[5], JOINED[30])):
            self.assertEqual((type(one & other), one & other), (Lesser, Lesser(one, other)))
            self.assertEqual((type(one | other), one | other), (Greater, Greater(one, other)))
            rule = one
            rule &= other
            self.assertEqual(rule, Lesser(one, other))
            rule = one
            rule |= other
            self.assertEqual(rule, Greater(one, other))

    def test_wrong_numbers(self):
        for value in integers_but(1, GREAT):
            self.raises(BadSize(value), Fixed, value)
            self.raises(BadSize(value), Fixed, size=value)
        for value in integers_but(0, 24):
            self.raises(BadRule("x"), Divided, value, None, 0)
        for value in integers_but(-1000, 1000) + [-1001, 1001]:
            self.raises(BadRule("y"), Divided, 0, value, 0)
        for value in integers_but(1, 24):
            self.raises(BadRule("w"), Divided, 24, 1000, value)
            self.raises(BadRule("w"), Divided, w=value, x=0, y=-1000)
            self.raises(BadRule("w"), Divided.up, value)
        for value in (25, -1):
            self.raises(BadRule("x"), Divided, value, 0, 1)
        self.assertEqual(str(Divided(24, -1000, 24)), "divided 24 -1000 24")

    def test_what_cannot_be_joined(self):
        kinds = (Fixed, Divided, Lesser, Greater)
        for one in ALL[::6]:
            for value in but(*kinds) + [By(a_function)]:
                for kind in (Lesser, Greater):
                    self.raises(BadRule("one"), kind, value, one)
                    self.raises(BadRule("one"), kind, value, None)
                    self.raises(BadRule("other"), kind, one, value)
                self.raises(BadRule("other"), lambda: one & value)
                self.raises(BadRule("other"), lambda: one | value)

    def test_by_cannot_be_joined(self):
        for value in everything() + ALL[::6]:
            self.raises(BadRule("other"), lambda: By(a_function) & value)
            self.raises(BadRule("other"), lambda: By(a_function) | value)

    def test_too_many_parts(self):
        three = Fixed(1) & Fixed(2) | Fixed(3)
        six = three & three
        self.assertEqual(len(six.parts), 6)
        for one, other in ((six, Fixed(1)), (Fixed(1), six), (six, six), (three & Fixed(1), three)):
            for kind in (Lesser, Greater):
                self.raises(TooMany("parts", 6), kind, one, other)
            self.raises(TooMany("parts", 6), lambda: one & other)
            self.raises(TooMany("parts", 6), lambda: one | other)

    def test_too_many_residues(self):
        one = Divided(1, 0, 23) | Divided(1, 0, 19)
        self.assertEqual(one.modulus, 437)
        self.assertEqual((one & Divided(1, 0, 11)).modulus, 4807)
        for other in (Divided(1, 0, 12), Divided(1, 0, 24)):
            self.raises(TooMany("residues", 5000), lambda: one & other)
            self.raises(TooMany("residues", 5000), Greater, other, one)
        self.assertEqual((Divided(1, 0, 8) & Divided(1, 0, 9) & Divided(1, 0, 17)).modulus, 1224)
        # 24 * 19 * 11 is 5,016.
        self.assertEqual((Divided(0, 0, 24) & Divided(0, 0, 23) & Divided(0, 0, 9)).modulus, 1656)
        self.raises(TooMany("residues", 5000), lambda: Divided(0, 0, 24) & Divided(0, 0, 19) & Divided(0, 0, 11))
        # Parts are counted first.
        six = one & one & one
        self.raises(TooMany("parts", 6), lambda: six & Divided(1, 0, 13))

    def test_equal(self):
        others = ALL + [By(a_function), By(len)]
        for one in others:
            for other in others:
                expected = str(one) == str(other) and str(one) != "by" or one is other
                self.is_same(one == other, expected)
                self.is_same(one != other, not expected)
            for value in everything():
                if not isinstance(value, Rule):
                    self.is_same(one == value, False)
        self.is_same(By(a_function) == By(a_function), True)
        self.is_same(By(lambda rest: 1) == By(lambda rest: 1), False)
        self.is_same(Lesser(Fixed(1), Fixed(2)) == Greater(Fixed(1), Fixed(2)), False)
        self.is_same(Lesser(Fixed(1), Fixed(2)) == Lesser(Fixed(2), Fixed(1)), False)
        for other in (Divided(2, 2, 3), Divided(1, 3, 3), Divided(1, 2, 4)):
            self.is_same(Divided(1, 2, 3) == other, False)


def parts_of(text):
    words = [word for word in text.split(" ") if word not in "()&|"]
    rows = " ".join(words).replace(" fixed", "\nfixed").replace(" divided", "\ndivided")
    return rows.split("\n")


class ByTest(Case):
    def test_wishes(self):
        by = By(lambda rest: rest // 2 - 3)
        self.assertEqual([by.wish(rest) for rest in (1, 2, 8, 20)], [-3, -2, 1, 7])
        self.assertEqual([by(rest) for rest in (1, 2, 8, 20)], [1, 1, 1, 7])
        self.assertEqual([By(lambda rest: 10 ** 60)(rest) for rest in (1, GREAT)], [1, GREAT])
        self.assertEqual(str(by), "by")
        self.assertEqual(str(By(lambda rest: 3).list_for(10)), "3 3 3 1")

    def test_how_often_it_is_called(self):
        asked = []

        def function(rest):
            asked.append(rest)
            return 4

        by = By(function)
        self.assertEqual(asked, [])
        by(9)
        by.wish(8)
        self.assertEqual(asked, [9, 8])
        by.list_for(10)
        self.assertEqual(asked, [9, 8, 10, 6, 2])
        steps = by.walk(10)
        self.assertEqual(asked, [9, 8, 10, 6, 2])
        self.assertEqual([next(steps), asked[5:]], [(10, 4), [10]])
        self.assertEqual([list(steps), asked[5:]], [[(6, 4), (2, 2)], [10, 6, 2]])
        del asked[:]
        self.raises(TooMany("chunks", 5000), by.list_for, GREAT)
        self.assertEqual(asked, [GREAT - 4 * count for count in range(5000)])
        del asked[:]
        for value in (0, -1, True, None):
            self.raises(BadRest(value), by, value)
        self.raises(BadTotal(-1), by.list_for, -1)
        self.raises(BadRule("other"), lambda: by & by)
        self.is_same(by == By(function), True)
        self.assertEqual(str(by), "by")
        self.assertEqual(asked, [])

    def test_values_that_are_no_integers(self):
        for value in but(int) + [True, False]:
            by = By(lambda rest: value)
            self.raises(BadRule("wish"), by, 5)
            self.raises(BadRule("wish"), by.wish, 5)
            self.raises(BadRule("wish"), by.list_for, 5)
            self.raises(BadRule("wish"), lambda: list(by.walk(5)))
            self.assertEqual((by.list_for(0), list(by.walk(0))), (Chunks(), []))

    def test_errors_of_the_package(self):
        def function(rest):
            return Crew(a=61 if rest < 4 else 1).speed

        by = By(function)
        self.assertEqual(by(5), 1)
        for call in (by, by.wish, by.list_for, lambda rest: list(by.walk(rest)), lambda rest: By(by)(rest)):
            self.raises(BadRule("function"), call, 3)
        for call in (by, by.wish, by.list_for):
            try:
                call(3)
            except BadRule as error:
                self.assertIsInstance(error.__cause__, BadSpeed)
                self.assertEqual(error.__cause__.value, 61)
        steps = by.walk(5)
        self.assertEqual([next(steps), next(steps)], [(5, 1), (4, 1)])
        self.raises(BadRule("function"), lambda: next(steps))

    def test_other_errors_go_on(self):
        for error in (ValueError, KeyError, ZeroDivisionError, RuntimeError):
            def function(rest):
                raise error("of its own")

            for call in (By(function), By(function).wish, By(function).list_for, lambda rest: list(By(function).walk(rest))):
                with self.assertRaises(error) as caught:
                    call(3)
                self.assertFalse(isinstance(caught.exception, LateError))


class ListTest(Case):
    def test_lists(self):
        for rule in ALL:
            for total in (0, 1, 2, 7, 30, 500):
                left, pairs = total, []
                while left:
                    pairs.append((left, max(1, min(left, wish(rule, left)))))
                    left -= pairs[-1][1]
                told = rule.list_for(total)
                self.is_same(told, Chunks(*[size for _, size in pairs]))
                self.assertEqual(list(rule.walk(total)), pairs)
                self.assertEqual((rule.list_for(total=total), list(rule.walk(total=total))), (told, pairs))
                self.assertEqual(told.rests, tuple(rest for rest, _ in pairs))

    def test_great_totals(self):
        half = Divided(1, 1, 2)
        told = half.list_for(GREAT)
        self.assertEqual((told.total, told.sizes[:2], list(half.walk(GREAT))[-1]), (GREAT, (GREAT // 2, GREAT // 4), (1, 1)))
        self.assertEqual(Fixed(GREAT).list_for(GREAT), Chunks(GREAT))
        self.assertEqual(Fixed(2 * 10 ** 26).list_for(GREAT).sizes, (2 * 10 ** 26,) * 5000)

    def test_lists_that_are_too_long(self):
        self.assertEqual(len(Fixed(1).list_for(5000)), 5000)
        for rule in (Fixed(1), By(lambda rest: 1), Divided(0, 0, 1)):
            for total in (5001, 10 ** 6, GREAT):
                self.raises(TooMany("chunks", 5000), rule.list_for, total)
        steps = Fixed(1).walk(6000)
        self.assertEqual(list(steps)[-1], (1, 1))
        steps = Fixed(1).walk(GREAT)
        self.assertEqual([next(steps), next(steps)], [(GREAT, 1), (GREAT - 1, 1)])

    def test_wrong_totals(self):
        for rule in ALL[::9] + DEEP + [By(lambda rest: None)]:
            for value in integers_but(0, GREAT):
                self.raises(BadTotal(value), rule.list_for, value)
                self.raises(BadTotal(value), lambda: next(rule.walk(value)))
                self.raises(BadTotal(value), lambda: list(rule.walk(total=value)))


class TextTest(Case):
    def test_there_and_back(self):
        for rule in ALL:
            text = str(rule)
            self.is_same(type(text), str)
            told = Rule.read(text)
            self.assertEqual((type(told), told, str(told)), (type(rule), rule, text))
            self.assertEqual(Rule.read(text=text), rule)

    def test_texts(self):
        self.assertEqual(str(Fixed(GREAT)), f"fixed {GREAT}")
        self.assertEqual(str(Divided(5, -20, 3)), "divided 5 -20 3")
        text = "( ( fixed 4 | divided 1 1 2 ) & ( fixed 5 | ( fixed 6 & divided 0 0 1 ) ) )"
        expected = (Fixed(4) | Divided(1, 1, 2)) & (Fixed(5) | (Fixed(6) & Divided(0, 0, 1)))
        self.assertEqual((Rule.read(text), str(expected)), (expected, text))

    def first_wrong(self, words):
        """The index of the first word that cannot stand, the number of words if one is missing, None if all is well."""
        numbers = {"fixed": [(1, GREAT)], "divided": [(0, 24), (-1000, 1000), (1, 24)]}
        state, open_ones, wanted, parts = "rule", [], [], 0
        for at, word in enumerate(words):
            if wanted:
                least, most = wanted.pop(0)
                if not (word.lstrip("-").isdigit() and str(int(word)) == word and least <= int(word) <= most):
                    return at
                state = state if wanted else "behind"
            elif state == "rule" and word == "(":
                open_ones.append("first")
            elif state == "rule" and word in numbers and parts < 6:
                wanted, parts = list(numbers[word]), parts + 1
            elif state == "behind" and word in ("&", "|") and open_ones and open_ones[-1] == "first":
                open_ones[-1], state = "second", "rule"
            elif state == "behind" and word == ")" and open_ones and open_ones[-1] == "second":
                open_ones.pop()
            else:
                return at
        return None if state == "behind" and not open_ones and not wanted else len(words)

    def look_at(self, words):
        wrong = self.first_wrong(words)
        text = " ".join(words)
        if wrong is None:
            self.assertEqual(str(Rule.read(text)), text)
        else:
            self.raises(BadText(0, wrong), Rule.read, text)

    def test_words_left_out_put_in_exchanged_doubled(self):
        for rule in ALL[::4] + DEEP:
            words = str(rule).split(" ")
            for at in range(len(words)):
                self.look_at(words[:at])
                self.look_at(words[:at] + words[at + 1:])
                self.look_at(words[:at + 1] + words[at:])
                self.look_at(words[:at] + words[at + 1:at + 2] + words[at:at + 1] + words[at + 2:])
                for word in ("(", ")", "&", "|", "fixed", "divided", "by", "0", "1", "-1", "25", "01", "-0", "+1", "", "1001",
                             "-1001", str(GREAT + 1), "x", "1\n", "/"):
                    self.look_at(words[:at] + [word] + words[at:])
                    self.look_at(words[:at] + [word] + words[at + 1:])
            for word in ("", "1", ")", "&", "fixed"):
                self.look_at(words + [word])

    def test_words_that_cannot_stand(self):
        wrong = {"": 0, "by": 0, " ": 0, "fixed": 1, "fixed 0": 1, f"fixed {GREAT + 1}": 1, "fixed 4 4": 2, "divided": 1,
                 "divided 1": 2, "divided 1 1": 3, "divided 25 1 1": 1, "divided -1 1 1": 1, "divided 1 1001 1": 2,
                 "divided 1 -1001 1": 2, "divided 1 1 0": 3, "divided 1 1 25": 3, "divided 1 1 1 1": 4, "Fixed 4": 0,
                 "( fixed 4 )": 3, "( fixed 4 & by )": 4, "( fixed 4 & fixed 5 | fixed 6 )": 6, "fixed 4 & fixed 5": 2,
                 "( fixed 4 & fixed 5": 6, "( fixed 4 & fixed 5 ) )": 7, "()": 0, "( )": 1, "(": 1, "fixed  4": 1,
                 "fixed 4 ": 2, " fixed 4": 0, "fixed 4\n": 1, "( fixed 4 , fixed 5 )": 3}
        for text, word in wrong.items():
            self.raises(BadText(0, word), Rule.read, text)

    def test_a_seventh_part(self):
        six = "( ( ( ( ( fixed 1 & fixed 2 ) & fixed 3 ) & fixed 4 ) & fixed 5 ) & fixed 6 )"
        self.assertEqual(len(Rule.read(six).parts), 6)
        self.raises(BadText(0, len(six.split(" ")) + 2), Rule.read, f"( {six} & fixed 7 )")
        self.raises(BadText(0, len(six.split(" ")) + 2), Rule.read, f"( {six} & divided 1 0 1 )")
        self.raises(BadText(0, len(six.split(" ")) + 2), Rule.read, f"( {six} & by )")
        self.raises(BadText(0, len(six.split(" ")) + 4), Rule.read, f"( {six} & ( ( fixed 7 )")
        self.raises(BadText(0, len(six.split(" ")) + 4), Rule.read, f"( {six} & ( (")
        self.raises(BadText(0, len(six.split(" ")) + 1), Rule.read, f"( {six} )")
        for count in range(2, 12):
            self.look_at(" ".join(["("] * count + ["fixed 1 & fixed 2 )"] + ["& fixed 3 )"] * (count - 1)).split(" "))
            self.look_at(" ".join(["( fixed 1 &"] * count + ["fixed 2"] + [")"] * count).split(" "))

    def test_many_brackets(self):
        self.raises(BadText(0, 15000), Rule.read, " ".join("(" * 15000))
        self.raises(BadText(0, 14000), Rule.read, " ".join("(" * 14000) + " by")
        self.raises(BadText(0, 14002), Rule.read, " ".join("(" * 14000) + " fixed 1 )")
        self.raises(BadText(0, 14003), Rule.read, " ".join("(" * 14000) + " fixed 1 &")

    def test_multiples_that_are_too_great(self):
        text = "( ( divided 1 0 23 & divided 1 0 19 ) & divided 1 0 12 )"
        self.raises(TooMany("residues", 5000), Rule.read, text)
        # Words are looked at first.
        self.raises(BadText(0, 18), Rule.read, text + " x")
        self.raises(BadText(0, 17), Rule.read, text[:-2])
        self.raises(BadText(0, 15), Rule.read, text.replace("1 0 12", "1 x 12"))
        self.assertEqual(Rule.read(text.replace("12", "11")).modulus, 4807)

    def test_what_is_no_text(self):
        for value in but(str):
            self.raises(BadText(0, 0), Rule.read, value)
            self.raises(BadText(0, 0), Rule.read, text=value)


class WordsTest(Case):
    def test_all_short_texts(self):
        test = TextTest()
        words = ["(", ")", "&", "|", "fixed", "divided", "1", "0", "by"]
        for length in range(1, 5):
            for row in product(words, repeat=length):
                test.look_at(list(row))
