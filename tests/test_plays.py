"""Plays of chunks in worlds, beside plays that are told moment by moment."""

from fractions import Fraction
from itertools import permutations, product

from latechunks.chunks import Chunks
from latechunks.crews import Crew
from latechunks.errors import BadChunks, BadCost, BadCrew, BadSetting, BadWorld, NoChunk, NoWorker
from latechunks.papers import Denial, Paper
from latechunks.plays import Play, Taking, offered, perfect_end, takings
from latechunks.ratios import Ratio
from latechunks.settings import Setting
from latechunks.worlds import World
from tests.helper import Case, but, everything
from tests.test_worlds import no_moments


def exact(number):
    return Fraction(number.over, number.under) if isinstance(number, Ratio) else Fraction(number)


def ratio(number):
    return Ratio(*Fraction(number).as_integer_ratio())


def told_moment_by_moment(setting, world):
    """The rows (worker, at, begun, ended) of a play: from moment to moment, whoever is free takes by the order."""
    free = {name: exact(moment) for name, moment in world.ready.items()}
    rows = []
    while len(rows) < len(world.costs):
        moment = min(free.values())
        for name in world.order:
            if len(rows) < len(world.costs) and name in free and free[name] == moment:
                ended = moment + setting.fee + Fraction(world.costs[len(rows)], setting.crew[name])
                rows.append((name, len(rows), moment, ended))
                free[name] = ended
    return rows


def best_end(crew, ready, cost):
    """The least moment by which a cost could have been done: between two moments it grows evenly."""
    if cost == 0:
        return Fraction(0)
    moments = sorted(exact(moment) for moment in ready.values())
    done = begin = Fraction(0)
    for at, moment in enumerate(moments):
        speed = sum(crew[name] for name in ready if exact(ready[name]) < moment)
        if speed and done + speed * (moment - begin) >= cost:
            break
        done, begin = done + speed * (moment - begin), moment
    speed = sum(crew[name] for name in ready if exact(ready[name]) <= begin)
    return begin + Fraction(cost - done) / speed


def rows_of(play):
    return [(row.worker, row.at, exact(row.begun), exact(row.ended)) for row in play]


def some_plays():
    crews = [Crew(a=1), Crew(a=1, b=1), Crew(a=3, b=1), Crew(a=2, b=1, c=3)]
    moments = [None, 0, 1, Ratio(3, 2), 4]
    lists = [(), (1,), (3, 1), (2, 2, 1), (1, 1, 1, 1, 1)]
    many = 0
    for crew in crews:
        for ready in product(moments, repeat=len(crew)):
            coming = {name: moment for name, moment in zip(crew.workers, ready) if moment is not None}
            for order in permutations(crew.workers):
                for sizes in lists:
                    many += 1
                    if coming and many % (1 if len(crew) < 3 else 7) == 0:
                        setting = Setting(crew, 1, 2, many % 3)
                        costs = [size * (1 + (many + at) % 2) for at, size in enumerate(sizes)]
                        yield Chunks.of(sizes), setting, World(coming, costs, order)


class TakingTest(Case):
    def test_a_paper_of_any_values(self):
        self.assertTrue(issubclass(Taking, Paper) and not issubclass(Taking, Denial))
        for value in everything():
            for taking in (Taking(value, 1, 2, 3), Taking(ended=3, begun=2, at=1, worker=value)):
                self.assertIs(taking.worker, value)
                self.assertEqual((taking.at, taking.begun, taking.ended), (1, 2, 3))
                self.is_same(bool(taking), True)
                self.is_same(taking == Taking(value, 1, 2, 3), True)
                self.is_same(taking == value, False)
                self.is_same(taking != value, True)
            for parts in ((1, value, 2, 3), (1, 2, value, 3), (1, 2, 3, value)):
                self.assertTrue(Taking(*parts) == Taking(*parts))
                self.assertFalse(Taking(*parts) == Taking("other", *parts[1:]))

    def test_equal_by_each_attribute(self):
        one = Taking("a", 0, Ratio(1), 2)
        for other in (Taking("b", 0, 1, 2), Taking("a", 1, 1, 2), Taking("a", 0, 2, 2), Taking("a", 0, 1, 3)):
            self.assertTrue(one != other)
        self.assertTrue(one == Taking("a", 0, 1, Ratio(2)))
        self.assertTrue(Taking("a", 1, 0, 0) == Taking("a", True, 0, 0))


class PlayTest(Case):
    def test_small_plays(self):
        count = 0
        for chunks, setting, world in some_plays():
            play = Play(chunks, setting, world)
            rows = told_moment_by_moment(setting, world)
            self.assertEqual(rows_of(play), rows)
            self.assertEqual(rows_of(takings(chunks, setting, world)), rows)
            self.is_same(len(play), len(chunks))
            self.assertEqual((play.chunks, play.setting, play.world), (chunks, setting, world))
            free = {name: max([exact(world[name])] + [row[3] for row in rows if row[0] == name]) for name in world}
            self.assertEqual({name: exact(moment) for name, moment in play.free_at.items()}, free)
            if rows:
                perfect = best_end(setting.crew, world.ready, sum(world.costs))
                self.assertEqual([type(part) for part in (play.end, play.perfect, play.late)], [Ratio] * 3)
                self.assertEqual((exact(play.end), exact(play.perfect)), (max(row[3] for row in rows), perfect))
                self.assertEqual(exact(play.late), max(row[3] for row in rows) - perfect)
                late = [setting.late_of(rest, at, size) for at, (rest, size) in enumerate(zip(chunks.rests, chunks))]
                self.assertTrue(play.late <= Ratio.greatest(late))
            else:
                self.assertEqual((play.end, play.perfect, play.late), (None, None, None))
            count += 1
        self.assertGreater(count, 500)

    def test_by_hand(self):
        # a ends its first chunk of cost 2 at 1 + 2 = 3, when b comes: b stands first, and takes the next one.
        setting = Setting(Crew(a=1, b=2, c=1), fee=1)
        world = World({"a": 0, "b": 3}, (2, 4, 1), ("b", "a", "c"))
        play = Play(chunks=Chunks(2, 4, 1), setting=setting, world=world)
        told = [Taking("a", 0, 0, 3), Taking("b", 1, 3, 6), Taking("a", 2, 3, 5)]
        self.assertEqual(list(play), told)
        # All costs are 7: a alone does 3 by 3, both do the other 4 by 3 + 4/3.
        self.assertEqual((str(play.end), str(play.perfect), str(play.late)), ("6", "13/3", "5/3"))
        self.assertEqual(play.free_at, {"a": 5, "b": 6})
        self.assertEqual((play.takings_of("a"), play.takings_of(worker="b")), ((told[0], told[2]), (told[1],)))
        self.assertEqual(play.takings_of("c"), ())
        lead = Play(Chunks(2, 4, 1), setting, world.with_order(("a", "b", "c")))
        self.assertEqual([(row.worker, str(row.ended)) for row in lead], [("a", "3"), ("a", "8"), ("b", "9/2")])

    def test_who_takes_nothing(self):
        play = Play(Chunks(1), Setting(Crew(a=1, b=1)), World({"a": 0, "b": 7}, (1,), ("a", "b")))
        self.assertEqual((play.free_at, play.takings_of("b")), ({"a": 1, "b": 7}, ()))
        self.assertIs(type(play.free_at["b"]), Ratio)
        play.free_at["b"] = 0
        self.assertEqual(play.free_at, {"a": 1, "b": 7})

    def test_moments_are_ratios(self):
        play = Play(Chunks(1, 1), Setting(Crew(a=1)), World({"a": 0}, (1, 1), ("a",)))
        for row in play:
            self.assertEqual((type(row.begun), type(row.ended), type(row.at)), (Ratio, Ratio, int))

    def test_without_chunks(self):
        play = Play(Chunks(), Setting(Crew(a=1)), World({"a": 3}, (), ("a",)))
        self.assertEqual((play.end, play.perfect, play.late, len(play), list(play)), (None, None, None, 0, []))
        self.assertEqual((play.free_at, play[:], play.takings_of("a"), bool(play)), ({"a": 3}, (), (), False))
        self.raises(NoChunk(0), lambda: play[0])
        self.assertEqual(list(takings(Chunks(), Setting(Crew(a=1)), World({"a": 3}, (), ("a",)))), [])

    def test_indexes_and_slices(self):
        setting, world = Setting(Crew(a=1, b=1)), World({"a": 0, "b": 1}, (2, 1, 3, 1, 1), ("a", "b"))
        play = Play(Chunks(2, 1, 3, 1, 1), setting, world)
        rows = tuple(play)
        for at in (-10 ** 49, *range(-7, 8), 10 ** 49):
            if 0 <= at < 5:
                self.assertIs(play[at], rows[at])
            else:
                self.raises(NoChunk(at), lambda: play[at])
        parts = [None, -10 ** 49, -6, -2, 0, 1, 3, 9]
        for begin, end in product(parts, repeat=2):
            for step in (None, 1, 2, -1, -3, 10 ** 49):
                self.is_same(play[begin:end:step], rows[begin:end:step])

    def test_takings_of_any_value(self):
        play = Play(Chunks(1), Setting(Crew(a=1, b=1)), World({"a": 0}, (1,), ("a", "b")))
        for value in everything() + ["c"]:
            if value not in ("a", "b"):
                self.raises(NoWorker(value), play.takings_of, value)

    def test_the_order_decides_at_one_moment(self):
        setting, chunks = Setting(Crew(a=1, b=3), fee=1), Chunks(2, 2)
        world = World({"a": Ratio(5, 3), "b": 0}, (2, 2), ("a", "b"))
        orders = (("a", "b"), ("b", "a"))
        told = [[row.worker for row in Play(chunks, setting, world.with_order(order))] for order in orders]
        self.assertEqual(told, [["b", "a"], ["b", "b"]])

    def test_later_worlds_are_as_late(self):
        for chunks, setting, world in list(some_plays())[::9]:
            for moment in (1, Ratio(7, 3)):
                one, other = Play(chunks, setting, world), Play(chunks, setting, world + moment)
                self.assertEqual(one.late, other.late)

    def test_many_chunks(self):
        crew = Crew(a=7, b=5, c=60)
        chunks = Chunks.of([10 ** 30 - at for at in range(5000)])
        costs = [size * (1 + at % 60) for at, size in enumerate(chunks)]
        world = World({"a": Ratio(10 ** 49, 3), "c": 0}, costs, ("b", "a", "c"))
        play = Play(chunks, Setting(crew, 1, 60, 10 ** 30), world)
        self.assertEqual(rows_of(play), told_moment_by_moment(play.setting, world))

    def test_equal_beside_any_value(self):
        chunks, setting, world = Chunks(2), Setting(Crew(a=1, b=2)), World({"a": 0}, (2,), ("a", "b"))
        play = Play(chunks, setting, world)
        self.is_same(play == Play(Chunks(2), Setting(Crew(b=2, a=1)), World({"a": 0}, [2], ["a", "b"])), True)
        for value in but(Play) + [Play(chunks, setting, world + 1), Play(chunks, setting.with_fee(1), world),
                                  Play(Chunks(1), setting, world.with_costs((1,))), tuple(play), list(play)]:
            self.is_same(play == value, False)
            self.is_same(play != value, True)


class WrongTest(Case):
    def setUp(self):
        self.chunks = Chunks(2, 3)
        self.setting = Setting(Crew(a=1, b=3), 2, 5)
        self.world = World({"a": 0}, (4, 15), ("b", "a"))

    def both_raise(self, error, chunks, setting, world):
        self.raises(error, Play, chunks, setting, world)
        self.raises(error, Play, world=world, setting=setting, chunks=chunks)
        self.raises(error, lambda: next(takings(chunks, setting, world)))
        self.raises(error, lambda: list(takings(world=world, setting=setting, chunks=chunks)))

    def test_values_of_all_kinds(self):
        for value in but(Chunks):
            self.both_raise(BadChunks("chunks"), value, None, None)
            self.both_raise(BadChunks("chunks"), value, self.setting, self.world)
        for value in but(Setting):
            self.both_raise(BadSetting("setting"), self.chunks, value, None)
        for value in but(World):
            self.both_raise(BadWorld("world"), self.chunks, self.setting, value)

    def test_who_comes(self):
        self.both_raise(BadWorld("ready"), self.chunks, self.setting, World({"c": 0}, (), ("a", "c")))
        self.both_raise(BadWorld("ready"), self.chunks, self.setting, World({"a": 0, "c": 0}, (4, 15), ("a", "b", "c")))

    def test_who_stands_in_the_order(self):
        for order in (("a",), ("a", "c"), ("a", "b", "c"), ("c", "a")):
            self.both_raise(BadWorld("order"), self.chunks, self.setting, World({"a": 0}, (), order))

    def test_costs(self):
        for costs in ((), (4,), (4, 15, 1), (3, 15), (11, 15), (4, 5), (4, 16), (1, 1)):
            self.both_raise(BadWorld("costs"), self.chunks, self.setting, self.world.with_costs(costs))
        for costs in ((4, 6), (10, 15), (4, 15), (7, 11)):
            self.assertEqual(len(Play(self.chunks, self.setting, self.world.with_costs(costs))), 2)
        great = Chunks(10 ** 30)
        for cost in (2 * 10 ** 30, 5 * 10 ** 30):
            self.assertEqual(len(Play(great, self.setting, self.world.with_costs((cost,)))), 1)
        for cost in (2 * 10 ** 30 - 1, 5 * 10 ** 30 + 1):
            self.both_raise(BadWorld("costs"), great, self.setting, self.world.with_costs((cost,)))

    def test_crew_comes_first(self):
        self.both_raise(BadWorld("ready"), self.chunks, self.setting, World({"c": 0}, (1,), ("c",)))
        self.both_raise(BadWorld("order"), self.chunks, self.setting, World({"a": 0}, (1,), ("a",)))


class PerfectTest(Case):
    def setUp(self):
        self.crew = Crew(a=1, b=3, c=2)
        self.readies = [{"a": 0}, {"b": Ratio(5, 3)}, {"a": 2, "b": 2}, {"a": 0, "b": 4, "c": Ratio(5, 2)},
                        {"c": 1, "a": Ratio(1, 7)}, {"a": 10 ** 49, "b": 0}]
        self.moments = [0, 1, Ratio(1, 7), Ratio(5, 2), 3, Ratio(17, 4), 40, 10 ** 49]

    def test_offered(self):
        for ready in self.readies:
            for moment in self.moments:
                expected = sum(self.crew[name] * max(Fraction(0), exact(moment) - exact(begin))
                               for name, begin in ready.items())
                for told in (offered(self.crew, ready, moment), offered(moment=moment, ready=ready, crew=self.crew)):
                    self.assertIs(type(told), Ratio)
                    self.assertEqual(exact(told), expected)

    def test_perfect_end(self):
        for ready in self.readies:
            for cost in [moment for moment in self.moments if moment > 0]:
                for told in (perfect_end(self.crew, ready, cost), perfect_end(cost=cost, ready=ready, crew=self.crew)):
                    self.assertIs(type(told), Ratio)
                    self.assertEqual(exact(told), best_end(self.crew, ready, exact(cost)))
                    self.assertEqual(offered(self.crew, ready, told), Ratio.of(cost))
                    self.assertTrue(offered(self.crew, ready, told - told * Ratio(1, 10 ** 9)) < cost)
            for nothing in (0, Ratio(0)):
                self.assertIs(type(perfect_end(self.crew, ready, nothing)), Ratio)
                self.assertEqual(perfect_end(self.crew, ready, nothing), 0)

    def test_by_hand(self):
        crew, ready = Crew(a=1, b=3), {"a": Ratio(5, 3), "b": 0}
        told = [offered(crew, {name: ready[name]}, 2) for name in ready] + [offered(crew, ready, 2)]
        self.assertEqual([str(done) for done in told], ["1/3", "6", "19/3"])
        self.assertEqual((str(perfect_end(crew, ready, 4)), str(perfect_end(crew, ready, 9))), ("4/3", "8/3"))

    def test_arguments_stay_as_they_are(self):
        ready = {"b": 1, "a": Ratio(1, 2)}
        offered(self.crew, ready, 5)
        perfect_end(self.crew, ready, 5)
        self.assertEqual((list(ready), type(ready["b"])), (["b", "a"], int))

    def test_wrong_arguments(self):
        for function, error in ((offered, BadWorld("moment")), (perfect_end, BadCost)):
            for value in but(Crew):
                self.raises(BadCrew("crew"), function, value, {}, None)
            for value in but(dict) + [{}, {1: 1}, {"A": 0}, {"d": 0}, {"a": 0, "d": 0}, {"self": 0}]:
                self.raises(BadWorld("ready"), function, self.crew, value, None)
            for value in no_moments():
                self.raises(BadWorld("ready"), function, self.crew, {"b": 0, "a": value}, None)
                told = BadCost(value) if error is BadCost else error
                self.raises(told, function, self.crew, {"a": 0}, value)
