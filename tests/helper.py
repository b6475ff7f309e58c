"""What the tests share: values of all kinds, and errors compared with their fields."""

import unittest

from latechunks import cases, errors
from latechunks.batches import BatchBound, BatchEndless, Batched
from latechunks.chunks import Chunks
from latechunks.compared import Counter, Jump, Less, NeverLess, Other, Same, Steady, Surely, Undecided
from latechunks.crews import Crew
from latechunks.desk import Desk
from latechunks.fewest import Fewest, Greatest, Least, NoList
from latechunks.judged import Beyond, Bound, Endless, Within
from latechunks.late import Latest
from latechunks.logs import Came, Fits, Log, Misfit, Ring
from latechunks.loops import BestOrder, Loops
from latechunks.papers import Denial, Paper
from latechunks.plays import Play, Taking
from latechunks.pool import Pool, PoolTaking
from latechunks.ratios import Ratio
from latechunks.rules import By, Divided, Fixed
from latechunks.settings import Setting
from latechunks.worlds import World


def a_function(value):
    return value


def values():
    """Values of all kinds, new ones each time."""
    deep = 1
    for _ in range(8):
        deep = [deep]
    return [
        None, True, False, -10 ** 49, -1, 0, 1, 2, 7, 60, 61, 10 ** 30, 10 ** 30 + 1, 10 ** 50 - 1,
        "", "a", "abcdefgh", "abcdefghi", "A", "1", "-", "/", "fee", "self", "a b", "a\nb", "x" * 30000,
        (), (1,), (1, "a"), [], [1], [[]], ["a", None], deep, {}, {"a": 1}, {1: "a"}, {"a": {"b": [1]}},
        a_function, lambda: None, len,
        Ratio(0), Ratio(1), Ratio(1, 2), Ratio(-7, 3), Ratio(10 ** 49, 7), errors.BadSize(0), errors.Nothing(),
    ]


def objects():
    """Objects of the package, new ones each time."""
    crew = Crew(a=1, b=2)
    world = World({"a": 0}, (2,), ("a", "b"))
    return [
        Chunks(), Chunks(2), Chunks(4, 4), crew, Crew(a=1), Setting(crew), Setting(crew, 1, 2, 3), world,
        world.with_ready("b", Ratio(1, 2)), Play(Chunks(2), Setting(crew), world), Taking("a", 0, Ratio(0), Ratio(2)),
        Latest(Ratio(1, 2), 0, world), Fewest(Chunks(2)), NoList((2, 1)), Greatest(2, Chunks(2)),
        Least(Ratio(1), Chunks(2), (2,)), Fixed(2), Divided(1, 1, 2), Fixed(2) & Divided(1, 0, 3),
        Fixed(2) | Divided(1, 0, 3), By(a_function), Bound(Ratio(1, 2), 1), Endless(0, 1), Within([((1, 0, 1),)]),
        Beyond(1, Ratio(1)), NeverLess(((1,),)), Steady(((1,),)), Same(1, 2), Surely(NeverLess(((1,),)), Steady(((1,),))),
        Less(1), Jump(1), Other(1), Counter(3, (3, 2)), Undecided(1000), Batched(2, 4), BatchBound(Ratio(1, 2), 1, 0),
        BatchEndless(1, Ratio(1, 2)), Loops(), Loops(("a", Chunks(2)), ("b", Chunks())), BestOrder(("a",), Ratio(1), "a"),
        Log(Chunks(), Setting(crew), ()), Log.of(Play(Chunks(2), Setting(crew), world)), Fits(world), Misfit(0, "idle"),
        Ring(("a", "b")), Came(1, 2), Pool(Setting(crew), Fixed(2)), PoolTaking("a", "b", 1, Ratio(0), Ratio(1)),
        cases.Case(Setting(crew)), Desk(),
    ]


def everything():
    return values() + objects()


def but(*kinds):
    """Values of all kinds but these."""
    return [value for value in everything() if type(value) not in kinds]


def same(one, other):
    """Whether both are one value, of one kind."""
    return one is other or (type(one) is type(other) and one == other)


class Case(unittest.TestCase):
    def raises(self, error, call, *arguments, **named):
        """The call raises an error of just this class with just these fields."""
        with self.assertRaises(errors.LateError) as caught:
            call(*arguments, **named)
        told = caught.exception
        self.assertIs(type(told), type(error), f"{told!r} {vars(told)!r:.200}")
        self.assertEqual(list(vars(told)), list(vars(error)))
        for field, value in vars(error).items():
            self.assertTrue(same(vars(told)[field], value), f"{field}: {vars(told)[field]!r:.200}, not {value!r:.200}")

    def is_paper(self, kind, fields, base=Paper):
        """The class keeps any values in these fields and compares them; its papers are false if their base is Denial."""
        self.assertTrue(issubclass(kind, base))
        self.is_same(issubclass(kind, Denial), base is Denial)
        names = fields.split(", ")
        for value in everything():
            for at, name in enumerate(names):
                parts = [str(k) for k in range(len(names))]
                others = parts[:at] + ["another"] + parts[at + 1:]
                parts[at] = value
                for paper in (kind(*parts), kind(**dict(list(zip(names, parts))[::-1]))):
                    self.assertIs(getattr(paper, name), value)
                    self.assertEqual(list(vars(paper)), names)
                    self.is_same(bool(paper), base is not Denial)
                    self.is_same(paper == kind(*parts), True)
                    self.is_same(paper == kind(*others), False)
                    self.is_same(paper != kind(*others), True)
                    self.is_same(paper == value, False)

    def is_same(self, one, other):
        if not same(one, other):
            self.fail(f"{one!r:.200} is not {other!r:.200}")
