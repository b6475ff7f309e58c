"""How late lists of chunks can be, beside plays in many worlds."""

from fractions import Fraction
from itertools import product
from random import Random

from latechunks.chunks import Chunks
from latechunks.crews import Crew
from latechunks.errors import BadChunks, BadSetting, NoChunk
from latechunks.late import Latest, all_latenesses, latest, lateness, lateness_at, world_at
from latechunks.look_late import shows_latest
from latechunks.plays import Play
from latechunks.ratios import Ratio
from latechunks.settings import Setting
from latechunks.worlds import World
from tests.helper import Case, but, everything
from tests.test_chunks import lists_of
from tests.test_plays import exact, ratio
from tests.test_settings import integers_but, late

GREAT = 10 ** 12
CREWS = [Crew(a=1), Crew(b=7), Crew.even(2), Crew(a=3, b=1), Crew(a=2, b=5, c=2), Crew(a=4, b=1, c=4, d=1),
         Crew(a=3, b=60, c=7, d=60, e=3), Crew.even(6, 2), Crew(a=9, b=8, c=7, d=6, e=5, f=4, g=3), Crew.even(8, 60),
         Crew(a=1, b=60, c=1, d=60, e=1, f=60, g=1, h=60)]
COSTS = [(1, 1), (1, 2), (2, 7), (1, 60)]
FEES = [0, 1, 30, GREAT]
LISTS = [(), (1,), (7,), (4, 4), (1, 1, 1), (5, 1, 3, 2), (1, 2, 3, 4, 5), (8, 4, 2, 1, 1, 1, 1, 1),
         (GREAT,), (GREAT, 1), (1, GREAT, 1, 1, GREAT - 1, 3, 2, 10 ** 6)]


def settings():
    return [Setting(crew, least, most, fee) for crew in CREWS for least, most in COSTS for fee in FEES]


def lates(setting, sizes):
    """Late of all chunks, told as the document tells it."""
    return [late(setting, sum(sizes[at:]), at, size) for at, size in enumerate(sizes)]


def drawn_world(chunks, setting, random):
    """Any world of a list and a setting; often its moments are those at which somebody could be free."""
    crew = setting.crew
    order = list(crew.workers)
    random.shuffle(order)
    moments = [0, 0, 1, Ratio(random.randrange(40), random.randrange(1, 7))]
    done = Ratio(0)
    for size in chunks:
        done = done + setting.fee + Ratio(setting.least * size, crew.greatest_speed)
        moments.append(done)
    coming = {name: random.choice(moments) for name in order if random.randrange(5)}
    costs = [size * random.choice((setting.least, setting.most, random.randint(setting.least, setting.most)))
             for size in chunks]
    return World(coming or {order[0]: 0}, costs, order)


class LatenessTest(Case):
    def test_each_chunk(self):
        for setting in settings():
            for sizes in LISTS:
                chunks = Chunks(*sizes)
                told = all_latenesses(chunks, setting)
                self.assertIs(type(told), tuple)
                self.assertEqual([type(one) for one in told], [Ratio] * len(sizes))
                self.assertEqual([exact(one) for one in told], lates(setting, sizes))

    def test_one_place(self):
        for setting in settings()[::7]:
            for sizes in LISTS:
                chunks = Chunks(*sizes)
                for at, one in enumerate(all_latenesses(setting=setting, chunks=chunks)):
                    self.is_same(lateness_at(chunks, setting, at), one)
                    self.is_same(lateness_at(at=at, setting=setting, chunks=chunks), one)

    def test_the_greatest_one(self):
        for setting in settings():
            for sizes in LISTS[1:]:
                told = lateness(Chunks(*sizes), setting)
                self.assertIs(type(told), Ratio)
                self.assertEqual(exact(told), max(lates(setting, sizes)))
                self.is_same(lateness(setting=setting, chunks=Chunks(*sizes)), told)

    def test_without_chunks(self):
        for setting in settings()[::9]:
            told = [function(Chunks(), setting) for function in (lateness, all_latenesses, latest)]
            self.assertEqual(told, [None, (), None])

    def test_by_hand(self):
        # Speeds 1 and 4, costs 2 to 3, a fee of 1. First chunk: E is -9 - 2, late 1 + 9 - 11/5.
        setting = Setting(Crew(a=1, b=4), 2, 3, 1)
        # Second chunk: E is 4 - 3, behind the fees: late 1 + 3 + 1/4.
        self.assertEqual([str(one) for one in all_latenesses(Chunks(3, 1), setting)], ["39/5", "17/4"])
        self.assertEqual(str(lateness(Chunks(3, 1), setting)), "39/5")


class WorstWorldTest(Case):
    def test_its_parts(self):
        for setting in settings()[::3]:
            crew = setting.crew
            speeds = [speed for _, speed in crew]
            slow = [name for name, speed in crew if speed == min(speeds)][0]
            fast = [name for name, speed in crew if speed == max(speeds)][0]
            for sizes in LISTS:
                for at, size in enumerate(sizes):
                    told = world_at(Chunks(*sizes), setting, at)
                    moment = at * setting.fee + Fraction(setting.least * sum(sizes[:at]), max(speeds))
                    ready = {name: Fraction(0) if name == fast else moment for name in crew.workers}
                    self.assertEqual({name: exact(one) for name, one in told.ready.items()}, ready)
                    costs = [setting.least * one for one in sizes]
                    costs[at] = setting.most * size
                    self.is_same(told.costs, tuple(costs))
                    self.is_same(told.order, (slow, *[name for name in crew.workers if name != slow]))
                    self.assertEqual(told, world_at(at=at, setting=setting, chunks=Chunks(*sizes)))

    def test_its_play_is_as_late(self):
        for setting in settings():
            for sizes in LISTS:
                for at, one in enumerate(all_latenesses(Chunks(*sizes), setting)):
                    play = Play(Chunks(*sizes), setting, world_at(Chunks(*sizes), setting, at))
                    self.assertTrue(play.late >= one)
                    self.assertEqual(play[at].worker, play.world.order[0])

    def test_by_hand(self):
        setting = Setting(Crew(c=1, a=2, b=4, d=4), 2, 3, 5)
        told = world_at(Chunks(3, 1, 2), setting, 2)
        self.assertEqual(str(told), "a 12 b 0 c 12 d 12 / 6 2 6 / c a b d")


class AllWorldsTest(Case):
    def test_no_play_is_later(self):
        random = Random(6)
        for setting in settings():
            for sizes in LISTS[1:]:
                chunks = Chunks(*sizes)
                most = lateness(chunks, setting)
                for _ in range(4):
                    self.assertTrue(Play(chunks, setting, drawn_world(chunks, setting, random)).late <= most)

    def test_two_workers_over_all_moments(self):
        for crew in (Crew.even(2), Crew(a=1, b=3), Crew(a=2, b=1)):
            for fee in (0, 1):
                setting = Setting(crew, 1, 2, fee)
                for sizes in [one for total in range(1, 5) for one in lists_of(total)] + [[3, 3], [1, 4]]:
                    self.assertEqual(exact(lateness(Chunks(*sizes), setting)), self.greatest_of_all(setting, sizes))

    def greatest_of_all(self, setting, sizes):
        """The greatest lateness over the moments at which somebody can be free, both orders and all costs at ends."""
        chunks = Chunks(*sizes)
        ends = [(size * setting.least, size * setting.most) for size in sizes]
        moments = {Fraction(0), None}
        for count in range(len(sizes) + 1):
            for speed in (setting.crew["a"], setting.crew["b"]):
                moments.add(count * setting.fee + Fraction(sum(sizes[:count]) * setting.least, speed))
        found = Fraction(0)
        for costs in product(*ends):
            for moment in moments:
                for early, other in (("a", "b"), ("b", "a")):
                    ready = {early: 0} if moment is None else {early: 0, other: ratio(moment)}
                    for order in (("a", "b"), ("b", "a")):
                        found = max(found, exact(Play(chunks, setting, World(ready, costs, order)).late))
        return found


class LatestTest(Case):
    def test_the_least_place_of_the_greatest_late(self):
        for setting in settings():
            for sizes in LISTS[1:]:
                told = latest(Chunks(*sizes), setting)
                all_of_them = lates(setting, sizes)
                self.assertIs(type(told), Latest)
                self.assertEqual((exact(told.late), type(told.late)), (max(all_of_them), Ratio))
                self.is_same(told.at, all_of_them.index(max(all_of_them)))
                self.assertEqual(told.world, world_at(Chunks(*sizes), setting, told.at))
                self.assertEqual(Play(Chunks(*sizes), setting, told.world).late, told.late)
                self.assertEqual(told, latest(setting=setting, chunks=Chunks(*sizes)))

    def test_several_of_the_greatest_late(self):
        # Of three equal chunks of two workers each one has late 1/2, if each is 1 more than what follows.
        two = Setting(Crew.even(2))
        self.assertEqual([str(one) for one in all_latenesses(Chunks(4, 2, 1), two)], ["1/2", "1/2", "1/2"])
        self.is_same(latest(Chunks(4, 2, 1), two).at, 0)
        self.is_same(latest(Chunks(1, 4, 2, 1), two).at, 1)

    def test_papers(self):
        self.is_paper(Latest, "late, at, world")


class ChangesTest(Case):
    def test_harder_settings_are_never_less_late(self):
        for setting in settings()[::2]:
            for sizes in LISTS[1:]:
                chunks = Chunks(*sizes)
                late_here = lateness(chunks, setting)
                others = [setting.with_costs(1, 60), setting.with_fee(setting.fee + 1), setting.with_fee(GREAT)]
                if len(setting.crew) < 8:
                    others += [setting.with_crew(setting.crew + Crew(x=speed)) for speed in (1, 5, 60)]
                for other in others:
                    self.assertTrue(setting <= other)
                    self.assertTrue(late_here <= lateness(chunks, other))

    def test_speeds_so_many_times_as_great(self):
        for crew in (Crew(a=1), Crew(a=2, b=5, c=1), Crew.even(8)):
            for least, most in COSTS:
                for times in (2, 3, 12):
                    for sizes in LISTS[1:]:
                        one = lateness(Chunks(*sizes), Setting(crew, least, most))
                        other = lateness(Chunks(*sizes), Setting(times * crew, least, most))
                        self.assertEqual(one, times * other)

    def test_finer_lists_without_a_fee(self):
        for setting in settings()[::12] + [Setting(Crew(a=2, b=3), 2, 7)]:
            if setting.fee == 0:
                for one in lists_of(6):
                    for other in lists_of(6):
                        if Chunks(*one) <= Chunks(*other):
                            self.assertTrue(lateness(Chunks(*one), setting) <= lateness(Chunks(*other), setting))

    def test_single_items_are_bad_with_a_fee(self):
        setting = Setting(Crew.even(2), 1, 1, 3)
        self.assertTrue(lateness(Chunks.even(40, 1), setting) > lateness(Chunks(20, 10, 10), setting))

    def test_a_list_in_front(self):
        for setting in settings()[::5]:
            for front in LISTS:
                for sizes in LISTS:
                    told = all_latenesses(Chunks(*front) + Chunks(*sizes), setting)[len(front):]
                    here = all_latenesses(Chunks(*sizes), setting)
                    if setting.fee == 0:
                        self.assertEqual(told, here)
                    else:
                        self.assertTrue(all(one <= other for one, other in zip(here, told)))

    def test_one_worker_is_late_by_its_fees(self):
        for speed in (1, 7, 60):
            for fee in FEES:
                for least, most in COSTS:
                    for sizes in LISTS[1:]:
                        told = lateness(Chunks(*sizes), Setting(Crew(a=speed), least, most, fee))
                        self.assertEqual(told, fee * len(sizes))

    def test_the_last_chunk(self):
        for setting in settings():
            for sizes in LISTS[1:]:
                self.assertTrue(all_latenesses(Chunks(*sizes), setting)[-1] >= setting.lowest)


class LookTest(Case):
    def test_right_papers(self):
        for setting in settings():
            for sizes in LISTS[1:]:
                self.is_same(shows_latest(Chunks(*sizes), setting, latest(Chunks(*sizes), setting)), True)
        told = latest(Chunks(4, 2), Setting(Crew.even(2)))
        self.is_same(shows_latest(value=told, setting=Setting(Crew.even(2)), chunks=Chunks(4, 2)), True)

    def test_another_place_and_another_world(self):
        two, chunks = Setting(Crew.even(2)), Chunks(4, 2, 1)
        for at in range(3):
            for seen in range(3):
                world = world_at(chunks, two, seen)
                for shift in (0, 5, Ratio(1, 3)):
                    self.is_same(shows_latest(chunks, two, Latest(Ratio(1, 2), at, world + shift)), True)
        # b comes when a is free again: whoever goes first then does the last chunk.
        one = Setting(Crew.even(2))
        for order in (("a", "b"), ("b", "a")):
            world = World({"a": 0, "b": 4}, (4, 4), order)
            self.is_same(shows_latest(Chunks(4, 4), one, Latest(Ratio(2), 1, world)), True)

    def test_papers_that_are_otherwise(self):
        for setting in [Setting(Crew.even(2)), Setting(Crew(a=1, b=3, c=2), 1, 4), Setting(Crew(a=5, b=2), 2, 3, 4)]:
            for sizes in LISTS[1:8]:
                chunks = Chunks(*sizes)
                told = latest(chunks, setting)
                lates_here = all_latenesses(chunks, setting)
                for shift in (-1, 1, Ratio(1, 7), Ratio(-1, 60)):
                    self.wrong(chunks, setting, told.late + shift, told.at, told.world)
                for at, one in enumerate(lates_here):
                    if one != told.late:
                        self.wrong(chunks, setting, told.late, at, told.world)
                        self.wrong(chunks, setting, one, at, told.world)
                        self.wrong(chunks, setting, one, at, world_at(chunks, setting, at))
                    play = Play(chunks, setting, world_at(chunks, setting, at))
                    self.is_same(shows_latest(chunks, setting, Latest(told.late, told.at, play.world)),
                                 play.late == told.late)

    def wrong(self, chunks, setting, *parts):
        self.is_same(shows_latest(chunks, setting, Latest(*parts)), False)

    def test_values_of_all_kinds_in_a_paper(self):
        setting, chunks = Setting(Crew.even(2)), Chunks(4, 4, 2)
        told = latest(chunks, setting)
        self.assertEqual(str(told.late), "1")
        for value in everything():
            if not (type(value) is Ratio and value == 1):
                self.wrong(chunks, setting, value, told.at, told.world)
            if not (type(value) is int and value in (1, 2)):
                self.wrong(chunks, setting, told.late, value, told.world)
            self.wrong(chunks, setting, told.late, told.at, value)
            self.is_same(shows_latest(chunks, setting, value), False)
            self.is_same(shows_latest(Chunks(), setting, value), False)
        self.is_same(shows_latest(Chunks(), setting, told), False)

    def test_kinds_count(self):
        # Late is 2 at the place 1: neither 2 nor True will do.
        setting, chunks = Setting(Crew.even(2)), Chunks(4, 4)
        told = latest(chunks, setting)
        self.is_same(shows_latest(chunks, setting, Latest(Ratio(2), 1, told.world)), True)
        self.wrong(chunks, setting, 2, 1, told.world)
        self.wrong(chunks, setting, Ratio(2), True, told.world)
        self.wrong(chunks, setting, Ratio(2), Ratio(1), told.world)

    def test_places_that_are_none(self):
        setting, chunks = Setting(Crew.even(2)), Chunks(1, 1)
        told = latest(chunks, setting)
        for at in (-1, -2, 2, 5000, 10 ** 49, None):
            self.wrong(chunks, setting, told.late, at, told.world)

    def test_worlds_of_others(self):
        setting, chunks = Setting(Crew.even(2), 1, 2), Chunks(4, 4)
        told = latest(chunks, setting)
        others = [latest(Chunks(4, 4, 1), setting).world, latest(Chunks(9, 4), setting).world,
                  latest(chunks, Setting(Crew.even(3), 1, 2)).world, latest(chunks, Setting(Crew(a=1), 1, 2)).world,
                  told.world.with_costs((4, 9)), told.world.with_costs((3, 8)), told.world.with_costs((4, 7)),
                  World({"a": 0, "b": 4}, (4, 8), ("a", "b", "c")), told.world.with_ready("b", 0)]
        for world in others:
            self.wrong(chunks, setting, told.late, told.at, world)
        # Not only the worst one: with a first cost of 5 it is just as late.
        as_late = latest(Chunks(5, 4), setting).world
        self.is_same(shows_latest(chunks, setting, Latest(told.late, told.at, as_late)), True)


class WrongTest(Case):
    def test_values_of_all_kinds(self):
        two = Setting(Crew.even(2))
        for value in but(Chunks):
            for function in (lateness, all_latenesses, latest):
                self.raises(BadChunks("chunks"), function, value, None)
                self.raises(BadChunks("chunks"), function, setting=two, chunks=value)
            for function in (lateness_at, world_at, shows_latest):
                self.raises(BadChunks("chunks"), function, value, None, -1)
                self.raises(BadChunks("chunks"), function, value, two, 0)
        for value in but(Setting):
            for function in (lateness, all_latenesses, latest):
                self.raises(BadSetting("setting"), function, Chunks(1), value)
                self.raises(BadSetting("setting"), function, Chunks(), value)
            for function in (lateness_at, world_at, shows_latest):
                self.raises(BadSetting("setting"), function, Chunks(1), value, -1)
                self.raises(BadSetting("setting"), function, Chunks(1), value, 0)

    def test_places(self):
        two = Setting(Crew.even(2))
        for function in (lateness_at, world_at):
            for value in integers_but(0, 2):
                self.raises(NoChunk(value), function, Chunks(4, 2, 1), two, value)
                self.raises(NoChunk(value), function, at=value, setting=two, chunks=Chunks(4, 2, 1))
            for value in everything():
                self.raises(NoChunk(value), function, Chunks(), two, value)
