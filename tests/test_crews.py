"""Crews of workers."""

from itertools import permutations

from latechunks.crews import Crew
from latechunks.errors import BadCrew, BadName, BadSpeed, BadText, NoWorker, TooMany
from tests.helper import Case, but, everything
from tests.test_checks import TEXT_WORDS

EIGHT = {name: 8 - at for at, name in enumerate("abcdefgh")}
SMALL = [{"a": 1}, {"b": 1}, {"a": 2}, {"a": 1, "b": 1}, {"a": 1, "b": 2}, {"c": 60, "zz": 1}, EIGHT]
NO_NAMES = ["", "A", "a1", "a b", "abcdefghi", "-", "/", *TEXT_WORDS]


def no_speeds():
    return [value for value in everything() if type(value) is not int or not 1 <= value <= 60] + [61]


class MadeTest(Case):
    def test_attributes(self):
        for speeds in SMALL:
            for crew in (Crew(**speeds), Crew.of(speeds), Crew.of(speeds=dict(reversed(list(speeds.items()))))):
                self.assertIs(type(crew), Crew)
                self.is_same(crew.workers, tuple(sorted(speeds)))
                self.is_same(crew.speed, sum(speeds.values()))
                self.is_same(crew.slowest, min(speeds, key=lambda name: (speeds[name], name)))
                self.is_same(crew.fastest, max(sorted(speeds), key=lambda name: speeds[name]))
                self.is_same(len(crew), len(speeds))
                self.is_same(list(crew), sorted(speeds.items()))
                self.assertTrue(crew)

    def test_any_order(self):
        rows = [("b", 3), ("a", 1), ("d", 1), ("c", 3)]
        for order in permutations(rows):
            for crew in (Crew(**dict(order)), Crew.of(dict(order))):
                self.assertEqual(list(crew), sorted(rows))
                self.assertEqual((str(crew), crew.slowest, crew.fastest), ("a 1 b 3 c 3 d 1", "a", "b"))

    def test_the_least_name_of_several(self):
        crew = Crew(d=2, c=2, b=7, a=7)
        self.assertEqual((crew.slowest, crew.fastest), ("c", "a"))
        self.assertEqual((Crew.even(4).slowest, Crew.even(4).fastest), ("a", "a"))

    def test_names(self):
        for word in NO_NAMES:
            self.raises(BadName(word), lambda: Crew(**{word: 1}))
            self.raises(BadName(word), lambda: Crew(**{"a": 0, word: 1}))
            self.raises(BadName(word), Crew.of, {"a": None, word: 1})
        self.raises(BadName("B"), lambda: Crew(a=1, c=0, self=1, C=1, B=1))
        self.raises(BadName("self"), lambda: Crew(a=1, self=1))
        self.raises(BadName("self"), Crew.of, {"a": 1, "self": 1, "B": 1})

    def test_keys_of_any_kind(self):
        def key(value):
            return value
        for value in (None, True, 0, 1, "A", (), (1, "a"), key, len):
            self.raises(BadName(value), Crew.of, {"a": 0, value: 1, "B": 1})
        self.raises(BadName("B"), Crew.of, {"z": 1, "B": 1, "A": 1})

    def test_speeds(self):
        for value in no_speeds():
            self.raises(BadSpeed(value), Crew, a=value)
            self.raises(BadSpeed(value), Crew, c=0, b=value, a=60)
            self.raises(BadSpeed(value), Crew.of, {"c": value, "b": 0, "a": 60})
        self.assertEqual((Crew(a=60).speed, Crew(a=1).speed), (60, 1))

    def test_empty_and_too_many(self):
        self.raises(BadCrew("empty"), Crew)
        self.raises(BadCrew("empty"), Crew.of, {})
        nine = {name: 1 for name in "abcdefghi"}
        self.raises(TooMany("workers", 8), lambda: Crew(**nine))
        self.raises(TooMany("workers", 8), Crew.of, nine)
        self.raises(BadSpeed(61), Crew.of, {**nine, "z": 61})
        self.raises(BadName("fee"), lambda: Crew(**nine, z=61, fee=1))

    def test_of_other_kinds(self):
        for value in but(dict):
            self.raises(BadCrew("speeds"), Crew.of, value)
            self.raises(BadCrew("speeds"), Crew.of, speeds=value)

    def test_later_changes_have_no_effect(self):
        speeds = {"b": 1, "a": 2}
        crew = Crew.of(speeds)
        speeds["a"] = 9
        del speeds["b"]
        self.assertEqual((str(crew), crew["a"], "b" in crew), ("a 2 b 1", 2, True))

    def test_even(self):
        for many in range(1, 9):
            for speed in (1, 7, 60):
                expected = Crew.of({name: speed for name in "abcdefgh"[:many]})
                self.assertEqual((Crew.even(many, speed), Crew.even(speed=speed, many=many)), (expected, expected))
            self.assertEqual(Crew.even(many), Crew.even(many, 1))
        for value in everything() + [8, 9]:
            if type(value) is not int or not 1 <= value <= 8:
                self.raises(BadCrew("many"), Crew.even, value)
                self.raises(BadCrew("many"), Crew.even, value, 0)
        for value in no_speeds():
            self.raises(BadSpeed(value), Crew.even, 3, value)


class PartsTest(Case):
    def test_speed_of_any_value(self):
        for speeds in SMALL:
            crew = Crew(**speeds)
            for value in everything() + list("abcz"):
                there = type(value) is str and value in speeds
                self.is_same(value in crew, there)
                if there:
                    self.is_same(crew[value], speeds[value])
                else:
                    self.raises(NoWorker(value), lambda: crew[value])
                    self.raises(NoWorker(value), lambda: crew - value)

    def test_with_speed(self):
        crew = Crew(a=1, c=3)
        self.assertEqual(str(crew.with_speed("a", 5)), "a 5 c 3")
        self.assertEqual(str(crew.with_speed(speed=60, name="b")), "a 1 b 60 c 3")
        self.assertEqual(str(crew), "a 1 c 3")
        for value in everything() + NO_NAMES:
            if value not in ("a", "abcdefgh"):
                self.raises(BadName(value), crew.with_speed, value, 0)
        for value in no_speeds():
            self.raises(BadSpeed(value), crew.with_speed, "a", value)
            self.raises(BadSpeed(value), Crew(**EIGHT).with_speed, "z", value)
        self.raises(TooMany("workers", 8), Crew(**EIGHT).with_speed, "z", 1)
        self.is_same(Crew(**EIGHT).with_speed("a", 60)["a"], 60)


class SignsTest(Case):
    def test_sums(self):
        for one in SMALL:
            for other in SMALL:
                if set(one) & set(other):
                    self.raises(BadCrew("twice"), lambda: Crew(**one) + Crew(**other))
                elif len({**one, **other}) > 8:
                    self.raises(TooMany("workers", 8), lambda: Crew(**one) + Crew(**other))
                else:
                    self.assertEqual(Crew(**one) + Crew(**other), Crew.of({**one, **other}))
        for value in but(Crew):
            self.raises(BadCrew("other"), lambda: Crew(a=1) + value)

    def test_without_a_worker(self):
        self.assertEqual([str(Crew(**EIGHT) - name)[:3] for name in "ah"], ["b 7", "a 8"])
        self.raises(BadCrew("empty"), lambda: Crew(a=1) - "a")
        self.raises(NoWorker("b"), lambda: Crew(a=1) - "b")

    def test_times(self):
        crew = Crew(b=3, a=1, c=20)
        for many in (1, 2, 3):
            self.assertEqual((crew * many, many * crew), (Crew(a=many, b=3 * many, c=20 * many),) * 2)
        self.raises(BadSpeed(80), lambda: crew * 4)
        self.raises(BadSpeed(63), lambda: 21 * crew)
        self.raises(BadSpeed(62), lambda: 31 * Crew(a=1, b=2, c=3, d=60))
        for value in no_speeds():
            self.raises(BadSpeed(value), lambda: crew * value)
        for value in (0, 61, -1, True, None, "a", [1], (1,), {}):
            self.raises(BadSpeed(value), lambda: value * crew)

    def test_in_place(self):
        crew = Crew(a=1, b=2)
        kept = crew
        crew += Crew(c=3)
        self.assertEqual((str(crew), str(kept)), ("a 1 b 2 c 3", "a 1 b 2"))
        crew -= "a"
        crew *= 2
        self.assertEqual((str(crew), str(kept)), ("b 4 c 6", "a 1 b 2"))
        with self.assertRaises(BadCrew):
            kept += kept
        self.assertEqual(str(kept), "a 1 b 2")

    def test_the_order(self):
        for one in SMALL:
            for other in SMALL:
                within = set(one.items()) <= set(other.items())
                self.is_same(Crew(**one) <= Crew(**other), within)
                self.is_same(Crew(**one) < Crew(**other), within and one != other)
                self.is_same(Crew(**one) == Crew(**other), one == other)
        for value in but(Crew):
            self.raises(BadCrew("other"), lambda: Crew(a=1) <= value)
            self.raises(BadCrew("other"), lambda: Crew(a=1) < value)

    def test_equal_beside_any_value(self):
        for value in everything():
            expected = type(value) is Crew and str(value) == "a 1 b 2"
            self.is_same(Crew(b=2, a=1) == value, expected)
            self.is_same(Crew(b=2, a=1) != value, not expected)


class TextTest(Case):
    def test_there_and_back(self):
        for speeds in SMALL:
            text = " ".join(f"{name} {speeds[name]}" for name in sorted(speeds))
            self.is_same(str(Crew(**speeds)), text)
            self.assertEqual((Crew.read(text), Crew.read(text=text)), (Crew(**speeds), Crew(**speeds)))

    def test_words_that_cannot_stand(self):
        eight = str(Crew(**EIGHT))
        wrong = {"": 0, "a": 1, "a 1 b": 3, "a 1 b 3 a": 4, "b 1 a 1": 2, "a 1 a 1": 2, "a 0": 1, "a 61": 1, "a 01": 1,
                 "a -1": 1, "a b": 1, "1 a": 0, "A 1": 0, "fee 1": 0, "a 1 self 1": 2, "a 1 ": 2, " a 1": 0, "a  1": 1,
                 "a 1 /": 2, "a 1 / b 2": 2, "/": 0, "-": 0, "a 1 b 2\n": 3, "abcdefghi 1": 0, "a 1 -": 2, "a 1/2": 1,
                 eight + " i 1": 16, eight + " i": 16, eight + " ": 16, eight[:-1]: 15}
        for text, word in wrong.items():
            self.raises(BadText(0, word), Crew.read, text)

    def test_what_is_no_text(self):
        for value in but(str):
            self.raises(BadText(0, 0), Crew.read, value)
            self.raises(BadText(0, 0), Crew.read, text=value)
