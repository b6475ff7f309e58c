"""Looks at papers that tell what logs fit to, beside the words of the document."""

from itertools import permutations
from random import Random

from latechunks.chunks import Chunks
from latechunks.crews import Crew
from latechunks.errors import BadLog
from latechunks.logs import Came, Fits, Log, Misfit, Ring, fitting
from latechunks.look_logs import shows_log
from latechunks.plays import Play, Taking
from latechunks.ratios import Ratio
from latechunks.settings import Setting
from latechunks.worlds import World
from tests.helper import Case, but, everything
from tests.test_logs import TWO, ahead_pairs, disturbed, drawn_plays, with_integers, words_at

WORDS = ("worker", "cost", "order", "busy", "idle")


def log_of(sizes, setting, rows):
    return Log(Chunks(*sizes), setting, [Taking(name, at, begun, ended) for at, (name, begun, ended) in enumerate(rows)])


def gives(log, world):
    """Whether a world of the crew, with costs that can be, gives a log."""
    return list(Play(log.chunks, log.setting, world)) == list(log)


class FitsTest(Case):
    def test_what_is_told(self):
        for play in drawn_plays(21, 300):
            for log in (Log.of(play), with_integers(play)):
                self.is_same(shows_log(log, fitting(log)), True)
                self.is_same(shows_log(paper=Fits(play.world), log=log), True)

    def test_any_world_that_gives_the_log(self):
        counts = {True: 0, False: 0}
        random = Random(22)
        for play in drawn_plays(22, 250):
            log, world = Log.of(play), fitting(Log.of(play)).world
            worlds = [world.with_order(order) for order in permutations(world.order)][:24]
            for name in world.order:
                worlds += [world.with_ready(name, moment) for moment in (0, 1, Ratio(1, 2), 40)]
            for _ in range(4):
                worlds.append(worlds[0].with_order(random.sample(world.order, len(world.order))))
            for other in worlds:
                self.is_same(shows_log(log, Fits(other)), gives(log, other))
                counts[gives(log, other)] += 1
        self.assertTrue(min(counts.values()) > 300, counts)

    def test_workers_who_come_late(self):
        log = log_of((3,), TWO, [("b", 1, 4)])
        for moment, right in ((None, True), (0, False), (Ratio(1, 2), False), (1, True), (2, True), (10 ** 40, True)):
            world = World({"b": 1}, (3,), ("b", "a")).with_ready("a", moment)
            self.is_same(shows_log(log, Fits(world)), right)
        self.is_same(shows_log(log, Fits(World({"a": 1, "b": 1}, (3,), ("a", "b")))), False)

    def test_worlds_of_others(self):
        log = log_of((4, 4), TWO, [("a", 0, 4), ("b", 4, 8)])
        right = fitting(log).world
        for wrong in (right.with_costs((4,)), right.with_costs((4, 5)), right.with_costs(()), right.with_ready("a", 1),
                      right.with_order(("a", "b")), right + 1, right.with_ready("b", None),
                      World({"a": 0, "b": 4}, (4, 4), ("b", "a", "c")), World({"c": 0}, (4, 4), ("b", "a", "c"))):
            self.is_same(shows_log(log, Fits(wrong)), False)
        for value in everything():
            self.is_same(shows_log(log, Fits(value)), False)


class MisfitTest(Case):
    def test_all_words_at_all_takings(self):
        random = Random(23)
        counts = {}
        for play in drawn_plays(23, 700):
            if not play:
                continue
            log = disturbed(disturbed(Log.of(play), random), random)
            for at in range(len(log)):
                words = words_at(log, at)
                for why in WORDS:
                    self.is_same(shows_log(log, Misfit(at, why)), why in words)
                    counts[why, why in words] = counts.get((why, why in words), 0) + 1
        self.assertTrue(len(counts) == 10 and min(counts.values()) > 20, counts)

    def test_strangers_count_too(self):
        # A stranger is busy, then idle; words of a taking that is not the first one that cannot be.
        log = log_of((4, 4, 4), TWO, [("z", 0, 4), ("z", 3, 7), ("a", 8, 12)])
        told = [[at, why] for at in range(3) for why in WORDS if shows_log(log, Misfit(at, why))]
        self.assertEqual(told, [[0, "worker"], [1, "worker"], [1, "busy"], [2, "idle"]])

    def test_the_last_taking_and_an_earlier_one(self):
        # a ends at 9, then its last taking at 3: it is idle at 4 and still busy until 9.
        log = log_of((9, 3, 4), TWO, [("a", 0, 9), ("a", 0, 3), ("a", 4, 8)])
        told = [why for why in WORDS if shows_log(log, Misfit(2, why))]
        self.assertEqual(told, ["busy", "idle"])

    def test_parts_otherwise(self):
        log = log_of((4, 4), TWO, [("a", 0, 4), ("b", 5, 9)])
        self.is_same(shows_log(log, Misfit(1, "idle")), True)
        for value in everything() + [2, -1, "Idle", "idle ", ["idle"]]:
            self.is_same(shows_log(log, Misfit(value, "idle")), type(value) is int and value == 1)
            self.is_same(shows_log(log, Misfit(1, value)), False)
        for at in range(2):
            for why in WORDS:
                self.is_same(shows_log(Log(Chunks(), TWO, ()), Misfit(at, why)), False)


class RingTest(Case):
    def test_all_pairs_and_rings(self):
        random = Random(24)
        counts = {}
        for at in range(500):
            setting = Setting(Crew.even(2 + at % 3))
            names = list(setting.crew.workers) + ["z"]
            moments = [random.randrange(4) for _ in range(random.randrange(1, 8))]
            if at % 3:
                moments.sort()
            rows = [(random.choice(names), begun, begun + random.choice((1, 1, 2))) for begun in moments]
            log = log_of([1] * len(rows), setting, rows)
            pairs = ahead_pairs(log)
            for many in (2, 3, 4):
                for ring in list(permutations(names, many)) if many <= len(names) else []:
                    right = all(pair in pairs for pair in zip(ring, ring[1:] + ring[:1]))
                    self.is_same(shows_log(log, Ring(ring)), right)
                    counts[many, right] = counts.get((many, right), 0) + 1
        self.assertTrue(counts[2, True] > 20 and counts[3, True] > 5, counts)

    def test_also_where_some_taking_cannot_be(self):
        rows = [("a", 0, 2), ("b", 0, 2), ("b", 2, 4), ("a", 2, 4), ("a", 4, 9)]
        log = log_of((2, 2, 2, 2, 2), TWO, rows)
        self.is_same(fitting(log), Misfit(4, "cost"))
        for ring in (("a", "b"), ("b", "a")):
            self.is_same(shows_log(log, Ring(ring)), True)

    def test_parts_otherwise(self):
        rows = [("a", 0, 2), ("b", 0, 2), ("b", 2, 4), ("a", 2, 4)]
        log = log_of((2, 2, 2, 2), TWO, rows)
        self.is_same(shows_log(log, fitting(log)), True)
        wrong = [(), ("a",), ("a", "a"), ["a", "b"], ("a", "b", "a"), ("a", "b", "a", "b"), ("a", "c"), "ab", ("a", ["b"]),
                 (("a",), ("b",)), ("a", None), ("a", "b", "c")]
        for workers in wrong + everything():
            self.is_same(shows_log(log, Ring(workers)), False)

    def test_a_log_that_fits_has_none(self):
        for play in drawn_plays(25, 150):
            log = Log.of(play)
            for many in (2, 3):
                for ring in permutations(play.setting.crew.workers, many):
                    self.is_same(shows_log(log, Ring(ring)), False)


class OthersTest(Case):
    def test_other_values(self):
        log = log_of((4, 4), TWO, [("a", 0, 4), ("b", 4, 8)])
        for value in everything() + [Came(1, 2), True, "idle"]:
            self.is_same(shows_log(log, value), False)

    def test_papers_exchanged(self):
        logs = [log_of((4, 4), TWO, [("a", 0, 4), ("b", 4, 8)]), log_of((4, 4), TWO, [("a", 0, 4), ("b", 5, 9)]),
                log_of((4, 4), TWO, [("a", 0, 4), ("a", 4, 8)]), log_of((4, 3), TWO, [("a", 0, 4), ("b", 4, 8)]),
                log_of((2, 2, 2, 2), TWO, [("a", 0, 2), ("b", 0, 2), ("b", 2, 4), ("a", 2, 4)])]
        for log in logs:
            for other in logs:
                self.is_same(shows_log(log, fitting(other)), log is other)

    def test_wrong_arguments(self):
        for value in but(Log):
            for paper in (Misfit(0, "idle"), value):
                self.raises(BadLog("log"), shows_log, value, paper)
                self.raises(BadLog("log"), shows_log, paper=paper, log=value)
