"""Logs of plays, the worlds and latenesses that they tell back, and all that cannot be in them."""

from itertools import permutations, product
from random import Random

from latechunks.checks import is_name
from latechunks.chunks import Chunks
from latechunks.crews import Crew
from latechunks.errors import BadLog, BadSetting, NoChunk
from latechunks.logs import Came, Fits, Log, Misfit, Ring, fitting, lateness_between, untold
from latechunks.papers import Denial
from latechunks.plays import Play, Taking
from latechunks.ratios import Ratio
from latechunks.settings import Setting
from latechunks.worlds import World
from tests.helper import Case, but, everything, same
from tests.test_plays import exact
from tests.test_worlds import no_moments

TWO = Setting(Crew.even(2))
CREWS = [Crew(a=1), Crew.even(2), Crew(a=1, b=3), Crew.even(3), Crew(a=2, b=1, c=3), Crew.even(4, 2),
         Crew(a=1, b=2, c=3, d=4, e=60)]
MOMENTS = [0, 0, 0, 1, 2, 3, Ratio(1, 2), Ratio(5, 3)]


def drawn_play(random):
    """Any play; often several workers are free at one moment."""
    setting = Setting(random.choice(CREWS), *random.choice(((1, 1), (1, 2), (2, 5))), random.choice((0, 0, 1, 3)))
    chunks = Chunks(*[random.choice((1, 1, 2, 3, 6)) for _ in range(random.randrange(9))])
    order = list(setting.crew.workers)
    random.shuffle(order)
    ready = {name: random.choice(MOMENTS) for name in order if random.randrange(4)}
    costs = [size * random.randint(setting.least, setting.most) for size in chunks]
    return Play(chunks, setting, World(ready or {order[0]: 0}, costs, order))


def drawn_plays(seed, many):
    random = Random(seed)
    return [drawn_play(random) for _ in range(many)]


def with_integers(play):
    """The Log of a play with moments told as integers where they are whole."""
    def told(moment):
        return moment.over if moment.under == 1 else moment
    return Log(play.chunks, play.setting, [Taking(row.worker, row.at, told(row.begun), told(row.ended)) for row in play])


def words_at(log, at):
    """All words that apply to a taking, as the document tells them."""
    rows = [(row.worker, exact(row.begun), exact(row.ended)) for row in log]
    worker, begun, ended = rows[at]
    crew, setting, size = dict(log.setting.crew), log.setting, log.chunks[at]
    words = []
    if worker not in crew:
        words.append("worker")
    else:
        cost = (ended - begun - setting.fee) * crew[worker]
        if cost.denominator != 1 or not setting.least * size <= cost <= setting.most * size:
            words.append("cost")
    if at > 0 and begun < rows[at - 1][1]:
        words.append("order")
    if any(other == worker and end > begun for other, _, end in rows[:at]):
        words.append("busy")
    lasts = {other: end for other, _, end in rows[:at]}
    if any(end < begun for end in lasts.values()):
        words.append("idle")
    return words


def ahead_pairs(log):
    """The pairs of workers of whom one must stand ahead of the other."""
    rows = [(row.at, row.worker, exact(row.begun), exact(row.ended)) for row in log]
    pairs = set()
    for at, one, begun, _ in rows:
        for against, other, begins, ends in rows:
            if one != other and begins == begun and at < against:
                pairs.add((one, other))
            if one != other and ends == begun and not any(name == other and when == begun for _, name, when, _ in rows):
                pairs.add((one, other))
    return pairs


def first_misfit(log):
    return next(((at, words_at(log, at)[0]) for at in range(len(log)) if words_at(log, at)), None)


def least_fitting_order(log):
    """The least order of the crew that fits, None if there is none."""
    pairs = ahead_pairs(log)
    for order in permutations(log.setting.crew.workers):
        if all(order.index(one) < order.index(other) for one, other in pairs):
            return order
    return None


def disturbed(log, random):
    """The log with something of one taking or of two otherwise."""
    rows = [[row.worker, row.begun, row.ended] for row in log]
    at = random.randrange(len(rows))
    kind = random.randrange(7)
    if kind == 0:
        rows[at][0] = random.choice(["z", "a", "b", "c"])
    if kind == 1:
        rows[at][2] = rows[at][2] + random.choice((1, Ratio(1, 2), Ratio(1, 7)))
    if kind == 2:
        rows[at][1], rows[at][2] = rows[at][1] + 1, rows[at][2] + 1
    if kind == 3:
        rows[at][1], rows[at][2] = Ratio(0), rows[at][2] - rows[at][1]
    if kind == 4:
        other = random.randrange(len(rows))
        rows[at], rows[other] = rows[other], rows[at]
    if kind == 5:
        other = random.randrange(len(rows))
        rows[at][0], rows[other][0] = rows[other][0], rows[at][0]
    if kind == 6:
        for row in rows[at:]:
            row[1], row[2] = row[1] + 1, row[2] + 1
    return Log(log.chunks, log.setting, [Taking(name, k, begun, ended) for k, (name, begun, ended) in enumerate(rows)])


class LogTest(Case):
    def test_attributes(self):
        for play in drawn_plays(1, 60):
            rows = list(play)
            for log in (Log.of(play), Log.of(play=play), Log(play.chunks, play.setting, rows),
                        Log(takings=tuple(rows), setting=play.setting, chunks=play.chunks)):
                self.assertIs(type(log), Log)
                self.assertEqual((log.chunks, log.setting, log.takings), (play.chunks, play.setting, tuple(rows)))
                self.is_same(list(log), rows)
                self.is_same((len(log), bool(log)), (len(rows), len(rows) > 0))
                self.is_same([log[k] for k in range(len(log))], rows)
                self.is_same(log == with_integers(play), True)

    def test_no_index(self):
        log = Log.of(drawn_plays(2, 9)[-1])
        for value in everything() + [len(log), -1]:
            if type(value) is not int or not 0 <= value < len(log):
                self.raises(NoChunk(value), lambda: log[value])
        with self.assertRaises(Exception) as caught:
            log[0:1]
        self.assertEqual((type(caught.exception), caught.exception.at), (NoChunk, slice(0, 1)))
        self.raises(NoChunk(0), lambda: Log(Chunks(), TWO, ())[0])

    def test_equality(self):
        rows = [Taking("a", 0, 0, 4), Taking("b", 1, 4, 8)]
        log = Log(Chunks(4, 4), TWO, rows)
        others = [Log(Chunks(4, 3), TWO, rows), Log(Chunks(4, 4), Setting(Crew.even(3)), rows), Log(Chunks(), TWO, []),
                  Log(Chunks(4, 4), TWO, [rows[0], Taking("a", 1, 4, 8)]),
                  Log(Chunks(4, 4), TWO, [rows[0], Taking("b", 1, 4, Ratio(17, 2))])]
        self.is_same(log == Log(Chunks(4, 4), TWO, (Taking("a", 0, Ratio(0), 4), Taking("b", 1, 4, Ratio(8)))), True)
        for other in others + everything():
            self.is_same(log == other, False)

    def test_later_changes(self):
        rows = [Taking("a", 0, 0, 4), Taking("b", 1, 4, 8)]
        log = Log(Chunks(4, 4), TWO, rows)
        kept = list(rows)
        rows.reverse()
        rows.append(None)
        self.is_same(list(log), kept)
        list(log).clear()
        self.is_same(log.takings, tuple(kept))

    def test_wrong_arguments(self):
        rows = [Taking("a", 0, 0, 4), Taking("b", 1, 4, 8)]
        chunks = Chunks(4, 4)
        for value in but(Chunks):
            self.raises(BadLog("chunks"), Log, value, TWO, rows)
            self.raises(BadLog("chunks"), Log, takings=value, setting=value, chunks=value)
        for value in but(Setting):
            self.raises(BadSetting("setting"), Log, chunks, value, rows)
            self.raises(BadSetting("setting"), Log, chunks, value, value)
        for value in everything() + [rows[:1], rows + [Taking("a", 2, 4, 8)], {0: rows[0], 1: rows[1]}]:
            self.raises(BadLog("takings"), Log, chunks, TWO, value)
            self.raises(BadLog("takings"), Log, chunks, TWO, [rows[0], value])
            if not is_name(value):
                self.raises(BadLog("takings"), Log, chunks, TWO, [rows[0], Taking(value, 1, 4, 8)])
            if not same(value, 1):
                self.raises(BadLog("takings"), Log, chunks, TWO, (rows[0], Taking("b", value, 4, 8)))
        for value in no_moments():
            self.raises(BadLog("takings"), Log, chunks, TWO, [rows[0], Taking("b", 1, value, 8)])
            self.raises(BadLog("takings"), Log, chunks, TWO, [Taking("b", 0, 0, value), rows[1]])
        self.raises(BadLog("takings"), Log, chunks, TWO, [Taking("a", False, 0, 4), Taking("b", True, 4, 8)])
        for value in but(Play):
            self.raises(BadLog("play"), Log.of, value)
            self.raises(BadLog("play"), Log.of, play=value)

    def test_any_moments_can_stand(self):
        rows = [Taking("z", 0, 10 ** 49, 0), Taking("abcdefgh", 1, Ratio(1, 3), Ratio(1, 3))]
        self.is_same(list(Log(Chunks(4, 4), TWO, rows)), rows)


class FittingTest(Case):
    def test_papers(self):
        self.is_paper(Fits, "world")
        self.is_paper(Misfit, "at, why", Denial)
        self.is_paper(Ring, "workers", Denial)

    def test_logs_of_plays_fit(self):
        for play in drawn_plays(3, 400):
            for log in (Log.of(play), with_integers(play)):
                found = fitting(log)
                self.assertIs(type(found), Fits)
                world = found.world
                named = {}
                for row in log:
                    named.setdefault(row.worker, row.begun)
                self.is_same(world.ready, named or {play.setting.crew.workers[0]: Ratio(0)})
                for moment in world.ready.values():
                    self.assertIs(type(moment), Ratio)
                self.is_same(world.costs, play.world.costs)
                self.is_same(Log.of(Play(log.chunks, log.setting, world)), log)
                self.is_same(world.order, least_fitting_order(log))
                self.is_same(fitting(log=log), found)

    def test_without_takings(self):
        for crew in CREWS:
            log = Log(Chunks(), Setting(crew), [])
            self.is_same(fitting(log), Fits(World({crew.workers[0]: 0}, (), crew.workers)))

    def test_disturbed_logs(self):
        random = Random(4)
        seen = {}
        for play in drawn_plays(4, 1500):
            if not play:
                continue
            log = disturbed(Log.of(play), random)
            if random.randrange(3) == 0:
                log = disturbed(log, random)
            found = fitting(log)
            misfit = first_misfit(log)
            order = None if misfit else least_fitting_order(log)
            if misfit:
                self.is_same(found, Misfit(*misfit))
                seen[misfit[1]] = seen.get(misfit[1], 0) + 1
            elif order is None:
                self.is_ring(log, found)
                seen["ring"] = seen.get("ring", 0) + 1
            else:
                self.is_same((type(found), found.world.order), (Fits, order))
                self.is_same(Log.of(Play(log.chunks, log.setting, found.world)), log)
                seen["fits"] = seen.get("fits", 0) + 1
        self.assertTrue(min(seen.values()) > 1 and len(seen) == 7, seen)

    def is_ring(self, log, found):
        self.assertIs(type(found), Ring)
        workers = found.workers
        self.assertEqual((type(workers), len(workers)), (tuple, len(set(workers))))
        self.assertTrue(len(workers) >= 2)
        pairs = ahead_pairs(log)
        for one, other in zip(workers, workers[1:] + workers[:1]):
            self.assertIn((one, other), pairs)

    def misfit(self, rows, at, why, setting=TWO, sizes=(4, 4)):
        log = Log(Chunks(*sizes), setting, [Taking(name, k, begun, ended) for k, (name, begun, ended) in enumerate(rows)])
        self.is_same(fitting(log), Misfit(at, why))
        self.assertEqual(words_at(log, at)[0], why)

    def test_each_word(self):
        self.misfit([("a", 0, 4), ("z", 4, 8)], 1, "worker")
        self.misfit([("a", 0, 4), ("b", 4, 9)], 1, "cost")
        self.misfit([("a", 0, Ratio(9, 2)), ("b", 4, 8)], 0, "cost")
        self.misfit([("a", 4, 0), ("b", 4, 8)], 0, "cost")
        self.misfit([("a", 4, 8), ("b", 3, 7)], 1, "order")
        self.misfit([("a", 0, 4), ("a", 3, 7)], 1, "busy")
        self.misfit([("a", 0, 4), ("a", 5, 9)], 1, "idle")
        self.misfit([("a", 0, 4), ("b", 5, 9)], 1, "idle")
        paid = Setting(Crew(a=1, b=3), 1, 2, 1)
        self.misfit([("a", 0, 4), ("b", 4, 6)], 0, "cost", paid)
        self.misfit([("b", 0, Ratio(7, 3)), ("b", Ratio(7, 3), Ratio(28, 3))], 1, "cost", paid)

    def test_the_first_word_of_several(self):
        # A stranger, out of order, at a wrong cost; then each word falls away.
        self.misfit([("a", 4, 8), ("z", 3, 9)], 1, "worker")
        self.misfit([("a", 4, 8), ("a", 3, 9)], 1, "cost")
        self.misfit([("a", 4, 8), ("a", 3, 7)], 1, "order")
        self.misfit([("b", 0, 4), ("a", 1, 5), ("a", 4, 8)], 2, "busy", TWO, (4, 4, 4))
        self.misfit([("b", 0, 1), ("a", 0, 4), ("a", 3, 7)], 2, "busy", TWO, (1, 4, 4))

    def test_the_first_taking(self):
        self.misfit([("a", 0, 5), ("z", 4, 8)], 0, "cost")
        self.misfit([("z", 0, 4), ("a", 4, 9)], 0, "worker")

    def test_rings(self):
        # At 0 a goes ahead of b, at 2 b ahead of a.
        rows = [("a", 0, 2), ("b", 0, 2), ("b", 2, 4), ("a", 2, 4)]
        log = Log(Chunks(2, 2, 2, 2), TWO, [Taking(name, k, *times) for k, (name, *times) in enumerate(rows)])
        self.assertEqual(set(fitting(log).workers), {"a", "b"})
        self.is_ring(log, fitting(log))
        three = Setting(Crew.even(3))
        # a, b, c at 0, and the other way round at 2.
        rows = [("a", 0, 2), ("b", 0, 1), ("c", 0, 1), ("b", 1, 2), ("c", 1, 2), ("c", 2, 3), ("b", 2, 3), ("a", 2, 3)]
        log = Log(Chunks(2, 1, 1, 1, 1, 1, 1, 1), three,
                  [Taking(name, k, *times) for k, (name, *times) in enumerate(rows)])
        self.is_ring(log, fitting(log))

    def test_rings_of_drawn_logs(self):
        # Workers of one speed who end at one moment change places behind it: who stands ahead then goes round often.
        random = Random(9)
        lengths = []
        for at in range(600):
            setting = Setting(Crew.even(2 + at % 4))
            order = setting.crew.workers
            rows = []
            for begun in range(4):
                order = random.sample(order, len(order))
                rows += [Taking(name, len(rows) + k, begun, begun + 1) for k, name in enumerate(order)]
            log = Log(Chunks.even(len(rows), 1), setting, rows)
            told = fitting(log)
            if least_fitting_order(log) is None:
                self.is_ring(log, told)
                lengths.append(len(told.workers))
            else:
                self.is_same((type(told), told.world.order), (Fits, least_fitting_order(log)))
        self.assertTrue({2, 3} <= set(lengths), set(lengths))

    def test_a_misfit_comes_ahead_of_a_ring(self):
        rows = [("a", 0, 2), ("b", 0, 2), ("b", 2, 4), ("a", 2, 4), ("a", 4, 9)]
        log = Log(Chunks(2, 2, 2, 2, 2), TWO, [Taking(name, k, *times) for k, (name, *times) in enumerate(rows)])
        self.is_same(fitting(log), Misfit(4, "cost"))

    def test_wrong_arguments(self):
        for value in but(Log):
            for call in (fitting, lateness_between):
                self.raises(BadLog("log"), call, value)
                self.raises(BadLog("log"), call, log=value)


class LatenessBetweenTest(Case):
    def test_both_ends_are_reached(self):
        unlike = 0
        for play in drawn_plays(5, 300):
            log = Log.of(play)
            told = lateness_between(log)
            self.is_same(lateness_between(log=log), told)
            if not len(play):
                self.is_same(told, None)
                continue
            least, greatest = told
            self.assertEqual([type(told), type(least), type(greatest)], [tuple, Ratio, Ratio])
            self.assertTrue(least <= play.late <= greatest)
            world = fitting(log).world
            named = [name for name in world.order if name in world]
            strangers = [name for name in world.order if name not in world]
            late_ones = world.with_order(named + strangers)
            self.is_same(Play(log.chunks, log.setting, world).late, least)
            for name in strangers:
                late_ones = late_ones.with_ready(name, play[len(play) - 1].begun)
            soon = Play(log.chunks, log.setting, late_ones)
            self.is_same(Log.of(soon), log)
            self.is_same(soon.late, greatest)
            unlike += least != greatest
        self.assertTrue(unlike > 50)

    def test_all_worlds_that_give_it(self):
        # Strangers come at any moments of a grid, in any order: no lateness lies outside, and both ends are reached.
        crew = Crew(a=1, b=2, c=1)
        grid = [None] + [Ratio(k, 2) for k in range(13)]
        setting = Setting(crew)
        for sizes, ready in (((3,), {"b": 1}), ((2, 2), {"a": 0}), ((2, 1), {"b": Ratio(1, 2)}), ((1, 1, 2), {"c": 1})):
            log = Log.of(Play(Chunks(*sizes), setting, World(ready, sizes, ("a", "b", "c"))))
            strangers = [name for name in crew.workers if name not in ready]
            lates = []
            for moments in product(grid, repeat=len(strangers)):
                for order in permutations(crew.workers):
                    world = World(ready, sizes, order)
                    for name, moment in zip(strangers, moments):
                        world = world.with_ready(name, moment)
                    play = Play(Chunks(*sizes), setting, world)
                    if Log.of(play) == log:
                        lates.append(exact(play.late))
            self.assertEqual([exact(one) for one in lateness_between(log)], [min(lates), max(lates)])

    def test_logs_that_do_not_fit(self):
        for rows in ([("a", 0, 4), ("b", 5, 9)], [("z", 0, 4), ("a", 4, 8)]):
            log = Log(Chunks(4, 4), TWO, [Taking(name, k, *times) for k, (name, *times) in enumerate(rows)])
            self.raises(BadLog("fit"), lateness_between, log)
        rows = [("a", 0, 2), ("b", 0, 2), ("b", 2, 4), ("a", 2, 4)]
        log = Log(Chunks(2, 2, 2, 2), TWO, [Taking(name, k, *times) for k, (name, *times) in enumerate(rows)])
        self.raises(BadLog("fit"), lateness_between, log)

    def test_none_without_takings(self):
        self.is_same(lateness_between(Log(Chunks(), TWO, ())), None)


def told_by_hand(chunks, setting, times):
    """The least and the greatest number of workers of all ways of telling a log with workers, None if none fits."""
    counts = []
    for names in product(setting.crew.workers, repeat=len(chunks)):
        log = Log(chunks, setting, [Taking(name, at, *pair) for at, (name, pair) in enumerate(zip(names, times))])
        if first_misfit(log) is None and least_fitting_order(log) is not None:
            counts.append(len(set(names)))
    return (min(counts), max(counts)) if counts else None


def word_without_workers(chunks, setting, times):
    """The first taking that cannot be and its first word, as the document tells them, None if all can be."""
    rows = [(exact(begun), exact(ended)) for begun, ended in times]
    speed = setting.crew[setting.crew.slowest]
    for at, (begun, ended) in enumerate(rows):
        cost, size = (ended - begun - setting.fee) * speed, chunks[at]
        if cost.denominator != 1 or not setting.least * size <= cost <= setting.most * size:
            return at, "cost"
        if at > 0 and begun < rows[at - 1][0]:
            return at, "order"
        for moment in {one for row in rows[:at] for one in row if one < begun}:
            begins = sum(row[0] == moment for row in rows[:at])
            if begins < sum(row[1] == moment for row in rows[:at]):
                return at, "idle"
        if sum(row[0] <= begun < row[1] for row in rows[:at]) + 1 > len(setting.crew):
            return at, "worker"
    return None


def drawn_times(random):
    """Small logs without workers: of plays, often with one moment otherwise."""
    setting = Setting(Crew.even(random.choice((1, 2, 3)), random.choice((1, 1, 2))), 1, random.choice((1, 2)),
                      random.choice((0, 0, 1)))
    chunks = Chunks(*[random.choice((1, 1, 2, 3)) for _ in range(random.randrange(6))])
    order = list(setting.crew.workers)
    ready = {name: random.choice((0, 0, 1, 2)) for name in order if random.randrange(3)}
    costs = [size * random.randint(setting.least, setting.most) for size in chunks]
    times = [(row.begun, row.ended) for row in Play(chunks, setting, World(ready or {"a": 0}, costs, order))]
    if times and random.randrange(2):
        at = random.randrange(len(times))
        move = random.choice((1, 1, Ratio(1, 2)))
        kind = random.randrange(3)
        times[at] = (times[at][0] + (move if kind else 0), times[at][1] + move)
        if kind == 2:
            times[at:] = [(begun + move, ended + move) for begun, ended in times[at:]]
    return chunks, setting, times


class UntoldTest(Case):
    def test_a_paper(self):
        self.is_paper(Came, "least, most")

    def test_beside_all_ways_of_telling(self):
        random = Random(6)
        seen = {}
        for _ in range(1200):
            chunks, setting, times = drawn_times(random)
            told = untold(chunks, setting, times)
            by_hand = told_by_hand(chunks, setting, times)
            word = word_without_workers(chunks, setting, times)
            if by_hand:
                self.assertIsNone(word)
                self.is_same(told, Came(*by_hand))
                self.assertEqual((type(told.least), type(told.most)), (int, int))
                kind = "one" if by_hand[0] == by_hand[1] else "several"
            else:
                self.is_same(told, Misfit(*word))
                kind = word[1]
                at = word[0]
                self.assertIsNotNone(told_by_hand(chunks[:at], setting, times[:at]))
            seen[kind] = seen.get(kind, 0) + 1
            self.is_same(untold(times=tuple(times), setting=setting, chunks=chunks), told)
        self.assertTrue(len(seen) == 6 and min(seen.values()) > 9, seen)

    def test_workers_of_plays(self):
        for play in drawn_plays(7, 300):
            if len(set(speed for _, speed in play.setting.crew)) == 1:
                told = untold(play.chunks, play.setting, [(row.begun, row.ended) for row in play])
                self.assertTrue(told.least <= len({row.worker for row in play}) <= told.most)

    def test_by_hand(self):
        self.is_same(untold(Chunks(), TWO, []), Came(0, 0))
        self.is_same(untold(Chunks(3), TWO, [(7, 10)]), Came(1, 1))
        # Both at once; the third begins when both end: by one of them, or by nobody new, as there are but two.
        self.is_same(untold(Chunks(2, 2, 1), TWO, [(0, 2), (0, 2), (2, 3)]), Came(2, 2))
        self.is_same(untold(Chunks(2, 2, 1), Setting(Crew.even(3)), [(0, 2), (0, 2), (2, 3)]), Came(2, 3))
        eight = Setting(Crew.even(8))
        self.is_same(untold(Chunks(2, 2, 1), eight, [(0, 2), (0, 2), (2, 3)]), Came(2, 3))
        self.is_same(untold(Chunks(2, 1, 1), eight, [(0, 2), (2, 3), (2, 3)]), Came(2, 3))
        self.is_same(untold(Chunks(2, 2, 2, 1, 1), eight, [(0, 2), (0, 2), (0, 2), (2, 3), (2, 3)]), Came(3, 5))

    def test_each_word(self):
        for times, misfit in (([(0, 4), (4, 9)], (1, "cost")), ([(0, 4), (4, Ratio(17, 2))], (1, "cost")),
                              ([(4, 0), (4, 8)], (0, "cost")), ([(4, 8), (3, 7)], (1, "order")),
                              ([(0, 4), (5, 9)], (1, "idle")), ([(4, 8), (3, 8)], (1, "cost"))):
            self.is_same(untold(Chunks(4, 4), TWO, times), Misfit(*misfit))
        self.is_same(untold(Chunks(4, 4, 4), TWO, [(0, 4), (1, 5), (3, 7)]), Misfit(2, "worker"))
        self.is_same(untold(Chunks(4, 4, 4), TWO, [(0, 4), (1, 5), (4, 8)]), Came(2, 2))
        self.is_same(untold(Chunks(1, 4, 4, 4), TWO, [(0, 1), (0, 4), (2, 6), (2, 6)]), Misfit(2, "idle"))

    def test_wrong_arguments(self):
        unlike = Setting(Crew(a=1, b=2))
        times = [(0, 4), (4, 8)]
        for value in but(Chunks):
            self.raises(BadLog("chunks"), untold, value, value, value)
            self.raises(BadLog("chunks"), untold, times=times, setting=unlike, chunks=value)
        for value in but(Setting):
            self.raises(BadSetting("setting"), untold, Chunks(4, 4), value, value)
        for value in everything() + [times]:
            self.raises(BadSetting("speeds"), untold, Chunks(4, 4), unlike, value)
            if value is not times:
                self.raises(BadLog("times"), untold, Chunks(4, 4), TWO, value)
                self.raises(BadLog("times"), untold, Chunks(4, 4), TWO, [times[0], value])
        for value in no_moments():
            for pair in ((value, 4), (0, value)):
                self.raises(BadLog("times"), untold, Chunks(4, 4), TWO, (pair, (4, 8)))
        for wrong in (times[:1], times * 2, [(0, 4, 8), (4, 8)], [[0, 4], [4, 8]], {0: (0, 4), 1: (4, 8)}, [(0,), (4, 8)]):
            self.raises(BadLog("times"), untold, Chunks(4, 4), TWO, wrong)
        self.raises(BadSetting("speeds"), untold, Chunks(), Setting(Crew(a=1, b=1, c=2)), [])

    def test_a_list_that_is_changed_afterwards(self):
        times = [(0, 4), (4, 8)]
        self.is_same(untold(Chunks(4, 4), TWO, times), Came(1, 2))
        self.is_same(times, [(0, 4), (4, 8)])


class LongLogsTest(Case):
    def test_long_logs(self):
        crew = Crew.even(8)
        order = crew.workers[::-1]
        chunks = Chunks.of([1 + k % 3 for k in range(5000)])
        play = Play(chunks, Setting(crew), World({name: 0 for name in crew.workers}, chunks.sizes, order))
        log = Log.of(play)
        self.is_same(Log.of(Play(chunks, log.setting, fitting(log).world)), log)
        self.is_same(lateness_between(log), (play.late, play.late))
        self.is_same(untold(chunks, log.setting, [(row.begun, row.ended) for row in play]), Came(8, 8))
