"""Cases of one loop."""

from itertools import product

from latechunks import cases
from latechunks.chunks import Chunks
from latechunks.crews import Crew
from latechunks.errors import BadChunks, BadRule, BadSetting, BadWorld
from latechunks.rules import By, Divided, Fixed
from latechunks.settings import Setting
from latechunks.worlds import World
from tests.helper import Case, a_function, but, everything

PAIR = Setting(Crew.even(2))
LISTS = [None, Chunks(), Chunks(4, 4)]
RULES = [None, Fixed(2), Divided(1, 1, 2), Fixed(2) & Divided(1, 0, 3), Fixed(2) | Divided(1, 0, 3)]
WORLDS = [None, World({"a": 0}, (4, 4), ("a", "b")), World({"z": 1}, (), ("z",))]


def parts_of(case):
    return case.setting, case.chunks, case.cut_by, case.world


class CaseTest(Case):
    def test_parts(self):
        for chunks, cut_by, world in product(LISTS, RULES, WORLDS):
            for case in (cases.Case(PAIR, chunks, cut_by, world),
                         cases.Case(world=world, cut_by=cut_by, chunks=chunks, setting=PAIR)):
                for told, given in zip(parts_of(case), (PAIR, chunks, cut_by, world)):
                    self.assertIs(told, given)
        self.is_same(parts_of(cases.Case(PAIR)), (PAIR, None, None, None))

    def test_with_parts(self):
        for old in product(LISTS, RULES[:3], WORLDS):
            for new in product(LISTS, RULES[2:] + [None], WORLDS):
                case = cases.Case(PAIR, *old)
                expected = tuple(one if other is None else other for one, other in zip(old, new))
                self.is_same(parts_of(case.with_parts(*new))[1:], expected)
                told = case.with_parts(world=new[2], cut_by=new[1], chunks=new[0])
                self.is_same(parts_of(told), (PAIR, *expected))
                self.is_same(parts_of(case)[1:], old)
        self.is_same(cases.Case(PAIR).with_parts(), cases.Case(PAIR))

    def test_equality(self):
        several = [cases.Case(setting, *parts) for setting in (PAIR, Setting(Crew(a=1)))
                   for parts in product(LISTS, RULES, WORLDS)]
        for at, one in enumerate(several[:40]):
            self.is_same(one == cases.Case(*parts_of(one)), True)
            for against, other in enumerate(several):
                self.is_same(one == other, at == against)
            for value in but(cases.Case):
                self.is_same(one == value, False)

    def test_wrong_arguments(self):
        good = cases.Case(PAIR)
        for value in but(Setting):
            self.raises(BadSetting("setting"), cases.Case, value, 1, 1, 1)
            self.raises(BadSetting("setting"), cases.Case, world=value, cut_by=value, chunks=value, setting=value)
        for value in everything() + [By(a_function)]:
            if value is not None and not isinstance(value, Chunks):
                for call in (good.with_parts, lambda *parts: cases.Case(PAIR, *parts)):
                    self.raises(BadChunks("chunks"), call, value, By(a_function), 1)
            if value is not None and not isinstance(value, (Fixed, Divided, type(RULES[3]), type(RULES[4]))):
                for call in (good.with_parts, lambda *parts: cases.Case(PAIR, *parts)):
                    self.raises(BadRule("cut_by"), call, None, value, 1)
                self.raises(BadRule("cut_by"), good.with_parts, cut_by=value)
            if value is not None and not isinstance(value, World):
                for call in (good.with_parts, lambda *parts: cases.Case(PAIR, *parts)):
                    self.raises(BadWorld("world"), call, None, None, value)
                self.raises(BadWorld("world"), cases.Case, PAIR, world=value)
