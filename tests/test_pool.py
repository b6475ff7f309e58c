"""Pools, beside walks that are told moment by moment."""

from fractions import Fraction
from random import Random

from latechunks.chunks import Chunks
from latechunks.crews import Crew
from latechunks.errors import BadName, BadPool, BadRule, BadSize, BadTotal, LateError, Nothing, NoWorker, TooMany
from latechunks.late import lateness
from latechunks.plays import Play, perfect_end
from latechunks.pool import Pool, PoolTaking
from latechunks.ratios import Ratio
from latechunks.rules import By, Divided, Fixed, Rule
from latechunks.settings import Setting
from latechunks.worlds import World
from tests.helper import Case, a_function, but, everything
from tests.test_plays import exact, ratio
from tests.test_settings import integers_but

GREAT = 10 ** 30
PLAIN = Setting(Crew.even(2))
CREWS = [Crew(a=1), Crew.even(2), Crew(a=1, b=3), Crew(c=2, a=7, b=5), Crew.even(8), Crew(a=1, b=60, c=7, d=2)]
RULES = [Fixed(1), Fixed(3), Divided(1, 1, 2), Divided.up(4) & Fixed(5), Fixed(2) | Divided(1, 0, 3),
         By(lambda rest: rest // 2), Divided(1, -3, 2)]
TIMES = [0, 0, 1, 2, 3, Ratio(1, 2), Ratio(7, 3), 5]


class Walk:
    """A pool, told moment by moment with fractions; its states are copied as a whole."""

    def __init__(self, setting, rule, work=None):
        self.setting, self.rule, self.work = setting, rule, work
        self.now, self.left, self.free, self.log = Fraction(0), {}, {}, []

    def state(self):
        return vars(self) | {"left": dict(self.left), "free": dict(self.free), "log": list(self.log)}

    def run(self, until):
        told = []
        while any(self.left.values()) and self.free:
            moment = min(max(free, self.now) for free in self.free.values())
            if moment > until:
                break
            for worker in sorted(self.free):
                names = [name for name, items in self.left.items() if items]
                if names and max(self.free[worker], self.now) == moment:
                    size = self.rule(self.left[names[0]])
                    cost = self.work(names[0], size) if self.work else self.setting.most * size
                    ended = moment + self.setting.fee + Fraction(cost, self.setting.crew[worker])
                    told.append((names[0], worker, size, moment, ended))
                    self.left[names[0]] -= size
                    self.free[worker] = ended
        self.now = exact(until)
        self.log += told
        return told


def rows_of(takings):
    return [(row.loop, row.worker, row.many, exact(row.begun), exact(row.ended)) for row in takings]


def some_pool():
    """A pool with a loop that is done, one that is not, a worker that works and one that comes later."""
    pool = Pool(Setting(Crew(a=1, b=2, c=1), 1, 2, 1), Divided(1, 1, 2))
    pool.add("first", 4)
    pool.come("a", 0)
    pool.come("b", Ratio(7, 2))
    pool.run(30)
    pool.add("then", 5)
    pool.add("last", 9)
    pool.come("c", 31)
    pool.run(Ratio(61, 2))
    return pool


class PoolTest(Case):
    def same_as(self, pool, walk):
        self.is_same(rows_of(pool.log), walk.log)
        self.is_same((type(pool.now), exact(pool.now)), (Ratio, walk.now))
        self.is_same(pool.waiting, tuple((name, items) for name, items in walk.left.items() if items))
        self.is_same(pool.here, tuple(sorted(walk.free)))
        self.is_same(len(pool), len(pool.waiting))
        for worker, free in walk.free.items():
            self.is_same((type(pool.busy_until(worker)), exact(pool.busy_until(worker))), (Ratio, free))
        for name, items in walk.left.items():
            self.is_same((pool[name], name in pool), (items, True))
            if items:
                self.raises(BadPool("open"), pool.end_of, name)
            else:
                ends = [ended for loop, _, _, _, ended in walk.log if loop == name]
                self.is_same(pool.end_of(name=name), ratio(max(ends)) if ends else None)
        for row in pool.log:
            self.assertEqual((type(row), type(row.begun), type(row.ended)), (PoolTaking, Ratio, Ratio))

    def drawn_deed(self, random, pool, walk, names):
        """Does any deed to both, and returns its word."""
        kind = random.choice(("add", "set", "come", "run", "run", "rule"))
        if kind == "add":
            name, items = "l" + "abcdefghijklmnopqrstuvwxyz"[len(names)], random.randint(1, 9)
            names.append(name)
            self.is_same(pool.add(name, items), None)
            walk.left[name] = items
        elif kind == "set" and walk.left:
            name, items = random.choice(list(walk.left)), random.choice((0, 0, 1, 4, 12))
            pool[name] = items
            walk.left[name] = items
        elif kind == "come" and len(walk.free) < len(walk.setting.crew):
            worker = random.choice([name for name in walk.setting.crew.workers if name not in walk.free])
            time = pool.now + random.choice(TIMES)
            self.is_same(pool.come(worker, time if random.randrange(2) or time.under > 1 else time.over), None)
            walk.free[worker] = exact(time)
        elif kind == "rule":
            rule = random.choice(RULES)
            if random.randrange(2):
                pool.rule = rule
            else:
                self.is_same(pool.set_rule(rule), None)
            self.assertIs(pool.rule, rule)
            walk.rule = rule
        else:
            kind = "run"
            until = pool.now + random.choice(TIMES)
            told = pool.run(until if until.under > 1 else until.over)
            self.assertIs(type(told), tuple)
            self.is_same(rows_of(told), walk.run(exact(until)))
        return kind

    def test_drawn_deeds(self):
        random = Random(1)
        for at in range(220):
            crew = CREWS[at % len(CREWS)]
            least, most, fee = random.choice(((1, 1, 0), (1, 2, 0), (2, 5, 1), (1, 1, 3)))
            setting = Setting(crew, least, most, fee)
            calls = []

            def work(name, size):
                calls.append((name, size))
                return size * (least + len(name + str(size)) % (most - least + 1))

            given = work if at % 2 else None
            pool, walk = Pool(setting, RULES[at % len(RULES)], given), Walk(setting, RULES[at % len(RULES)], given)
            names, states, words = [], [], []
            for _ in range(18):
                states.append(walk.state())
                words.append(self.drawn_deed(random, pool, walk, names))
                self.same_as(pool, walk)
                self.is_same(pool.deeds, len(words))
                while words and random.randrange(4) == 0:
                    self.is_same(pool.undo(), words.pop())
                    vars(walk).update(states.pop())
                    self.same_as(pool, walk)
            while words:
                self.is_same((pool.deeds, pool.undo()), (len(words), words.pop()))
                vars(walk).update(states.pop())
                self.same_as(pool, walk)
            self.raises(Nothing(), pool.undo)
            self.is_same(pool == Pool(setting, RULES[at % len(RULES)]), True)

    def test_many_steps_and_one(self):
        random = Random(2)
        for at in range(120):
            setting = Setting(CREWS[at % len(CREWS)], 1, 2, at % 3)
            pools = [Pool(setting, RULES[at % len(RULES)]) for _ in range(3)]
            for pool in pools:
                pool.add("x", 1 + at % 13)
                pool.add("y", 7)
                for k, worker in enumerate(setting.crew.workers[:1 + at % 4]):
                    pool.come(worker, TIMES[(k + at) % len(TIMES)])
            end = 17
            moments = sorted(Fraction(random.randrange(end * 6), 6) for _ in range(9))
            pools[0].run(end)
            for moment in moments + [end, end]:
                pools[1].run(ratio(moment))
            for moment in range(end + 1):
                pools[2].run(moment)
                self.is_same(pools[2].run(moment), ())
            self.is_same(pools[0] == pools[1], True)
            self.is_same(pools[0] == pools[2], True)

    def test_attributes(self):
        for rule in RULES:
            for pool in (Pool(PLAIN, rule), Pool(rule=rule, setting=PLAIN, work=None)):
                self.assertIs(pool.setting, PLAIN)
                self.assertIs(pool.rule, rule)
                self.is_same((pool.now, pool.waiting, pool.here, pool.log, pool.deeds), (Ratio(0), (), (), (), 0))
                self.is_same((len(pool), bool(pool), pool.bound(), pool.ahead()), (0, False, None, Chunks()))

    def test_a_pool_cannot_be_iterated_over(self):
        for pool in (Pool(PLAIN, Fixed(1)), some_pool()):
            for call in (iter, list, tuple, lambda same: [row for row in same]):
                with self.assertRaises(TypeError):
                    call(pool)

    def test_a_paper(self):
        self.is_paper(PoolTaking, "loop, worker, many, begun, ended")

    def test_truth_is_that_of_its_length(self):
        pool = Pool(PLAIN, Fixed(1))
        pool.add("x", 3)
        self.is_same((len(pool), bool(pool)), (1, True))
        pool["x"] = 0
        self.is_same((len(pool), bool(pool)), (0, False))

    def test_what_is_returned_belongs_to_the_caller(self):
        pool = some_pool()
        twin = pool.twin()
        self.assertEqual([type(part) for part in (pool.waiting, pool.here, pool.log)], [tuple] * 3)
        list(pool.waiting).clear()
        self.is_same(pool == twin, True)


class TakingsTest(Case):
    def test_least_names_go_first_at_equal_moments(self):
        pool = Pool(Setting(Crew.even(4)), Fixed(1))
        for worker in "dbca":
            pool.come(worker, 0)
        pool.add("x", 3)
        self.is_same([row.worker for row in pool.run(0)], ["a", "b", "c"])
        pool.add("y", 9)
        # d waits at 0 still; a, b and c are free at 1.
        self.is_same([row.worker for row in pool.run(1)], ["d", "a", "b", "c", "d"])

    def test_who_was_free_earlier_does_not_go_first(self):
        pool = Pool(Setting(Crew(a=1, b=1)), Fixed(2))
        pool.come("b", 1)
        pool.come("a", 3)
        pool.run(5)
        pool.add("x", 3)
        self.is_same([(row.worker, row.many, row.begun) for row in pool.run(5)], [("a", 2, Ratio(5)), ("b", 1, Ratio(5))])

    def test_nothing_is_taken_ahead_of_now(self):
        pool = Pool(PLAIN, Fixed(2))
        pool.come("a", 0)
        pool.run(Ratio(9, 2))
        pool.add("x", 2)
        self.is_same([row.begun for row in pool.run(10)], [Ratio(9, 2)])

    def test_workers_who_come_later_and_never(self):
        pool = Pool(Setting(Crew.even(3)), Fixed(1))
        pool.add("x", 4)
        self.is_same(pool.run(100), ())
        pool.come("b", 102)
        self.is_same((pool.run(101), pool.here, pool.busy_until("b")), ((), ("b",), Ratio(102)))
        self.is_same([(row.worker, row.begun) for row in pool.run(103)], [("b", Ratio(102)), ("b", Ratio(103))])

    def test_takings_at_the_very_end_of_a_run(self):
        pool = Pool(PLAIN, Fixed(2))
        pool.come("a", 0)
        pool.add("x", 6)
        self.is_same(len(pool.run(4)), 3)
        self.is_same(len(Pool(PLAIN, Fixed(2)).run(0)), 0)

    def test_a_chunk_takes_no_items_of_two_loops(self):
        pool = Pool(PLAIN, Fixed(4))
        pool.come("a", 0)
        pool.add("x", 5)
        pool.add("y", 2)
        self.is_same([(row.loop, row.many) for row in pool.run(50)], [("x", 4), ("x", 1), ("y", 2)])

    def test_set_anew_while_others_wait(self):
        pool = Pool(PLAIN, Fixed(4))
        pool.come("a", 0)
        for name in ("x", "y", "z"):
            pool.add(name, 4)
        pool.run(0)
        self.is_same(pool.waiting, (("y", 4), ("z", 4)))
        pool["x"] = 9
        pool["z"] = 1
        self.is_same(pool.waiting, (("x", 9), ("y", 4), ("z", 1)))
        pool["y"] = 0
        self.is_same(pool.waiting, (("x", 9), ("z", 1)))
        self.is_same(pool.end_of("y"), None)
        self.is_same([(row.loop, row.many) for row in pool.run(99)], [("x", 4), ("x", 4), ("x", 1), ("z", 1)])
        self.is_same((pool.end_of("x"), pool.end_of("z")), (Ratio(13), Ratio(14)))

    def test_great_items_and_fees(self):
        setting = Setting(Crew(a=1, b=60), 1, 60, GREAT)
        pool = Pool(setting, Fixed(GREAT))
        pool.add("x", GREAT)
        pool["x"] = GREAT
        pool.come("b", Ratio(10 ** 49 + 1, 10 ** 49 + 3))
        (row,) = pool.run(10 ** 49)
        self.is_same((row.many, row.ended - row.begun), (GREAT, Ratio(2 * GREAT)))

    def test_one_loop_beside_a_play(self):
        random = Random(3)
        for at in range(200):
            crew = CREWS[at % len(CREWS)]
            setting = Setting(crew, 1, 1 + at % 3, at % 2)
            rule = RULES[at % len(RULES)]
            chunks = rule.list_for(1 + at % 17)
            ready = {name: random.choice(TIMES) for name in crew.workers if random.randrange(3)} or {crew.workers[0]: 1}
            play = Play(chunks, setting, World(ready, [setting.most * size for size in chunks], crew.workers))
            pool = Pool(setting, rule)
            pool.add("x", chunks.total)
            for name, moment in ready.items():
                pool.come(name, moment)
            told = pool.run(10 ** 6)
            self.is_same([(row.worker, row.many, row.begun, row.ended) for row in told],
                         [(row.worker, chunks[row.at], row.begun, row.ended) for row in play])
            self.is_same(pool.end_of("x"), play.end)

    def test_five_thousand_takings(self):
        pool = Pool(PLAIN, Fixed(1))
        pool.come("a", 0)
        pool.add("x", 5001)
        self.is_same(len(pool.tried(lambda same: same.run(4999))), 5000)
        twin = pool.twin()
        self.raises(TooMany("takings", 5000), pool.run, 5000)
        self.raises(TooMany("takings", 5000), pool.run, until=10 ** 9)
        self.is_same((pool == twin, pool.deeds), (True, 2))
        pool["x"] = 5000
        self.is_same(len(pool.run(10 ** 9)), 5000)

    def test_too_many_takings_asks_nothing_more(self):
        calls = []
        pool = Pool(PLAIN, By(lambda rest: calls.append(rest) or 1), lambda name, size: calls.append(name) or size)
        pool.come("a", 0)
        pool.add("x", 6000)
        self.raises(TooMany("takings", 5000), pool.run, 10 ** 9)
        self.is_same((len(calls), calls[-2:]), (10000, [1001, "x"]))


class WorkTest(Case):
    def test_once_for_each_taking_in_their_order(self):
        calls = []

        def work(name, size):
            calls.append((name, size))
            return 3 * size if name == "x" else size

        pool = Pool(Setting(Crew.even(2), 1, 3), Fixed(2), work)
        pool.add("x", 3)
        pool.add("y", 4)
        pool.come("b", 0)
        pool.come("a", 1)
        told = pool.run(50)
        self.is_same(calls, [(row.loop, row.many) for row in told])
        self.is_same([row.ended - row.begun for row in told], [Ratio(3 * row.many if row.loop == "x" else row.many)
                                                               for row in told])
        pool.run(60)
        pool.ahead()
        pool.bound()
        self.is_same(len(calls), 4)

    def test_from_least_to_most(self):
        for cost, right in ((3, False), (4, True), (9, True), (10, True), (11, False)):
            pool = Pool(Setting(Crew(a=3), 2, 5), Fixed(2), lambda name, size: cost)
            pool.add("x", 2)
            pool.come("a", 0)
            if right:
                self.is_same(pool.run(0)[0].ended, Ratio(cost, 3))
            else:
                self.raises(BadPool("cost"), pool.run, 0)
                self.is_same((pool.log, pool.now, pool.waiting, pool.deeds), ((), Ratio(0), (("x", 2),), 2))

    def test_what_is_no_cost(self):
        told = []
        pool = Pool(Setting(Crew.even(1), 1, 7), Fixed(3), lambda name, size: told[-1] if len(told) > 1 else size)
        pool.add("x", 9)
        pool.come("a", 0)
        twin = pool.twin()
        for value in everything():
            if type(value) is not int or not 3 <= value <= 21:
                told[:] = ["", value]
                self.raises(BadPool("cost"), pool.run, 20)
                self.is_same((pool == twin, pool.deeds), (True, 2))

    def test_a_wrong_cost_behind_right_ones(self):
        costs = [1, 1, 0]
        pool = Pool(PLAIN, Fixed(1), lambda name, size: costs.pop(0))
        pool.add("x", 5)
        pool.come("a", 0)
        twin = pool.twin()
        self.raises(BadPool("cost"), pool.run, 20)
        self.is_same((pool == twin, pool.deeds, costs), (True, 2, []))

    def test_errors_go_on(self):
        def raises(error):
            raise error

        for error in (BadSize(3), ZeroDivisionError("x"), TooMany("chunks", 1), Nothing()):
            pool = Pool(PLAIN, Fixed(1), lambda name, size: raises(error))
            pool.add("x", 3)
            pool.come("a", 0)
            twin = pool.twin()
            with self.assertRaises(Exception) as caught:
                pool.run(5)
            self.assertIs(caught.exception, error)
            self.is_same((pool == twin, pool.deeds), (True, 2))

    def test_a_rule_that_raises(self):
        def strict(rest):
            if rest < 3:
                raise BadSize(rest)
            return 1

        for function, error in ((strict, BadRule("function")), (lambda rest: rest if rest > 4 else None, BadRule("wish"))):
            pool = Pool(PLAIN, By(lambda rest: 1 if rest > 4 else function(rest)))
            pool.add("x", 6)
            pool.come("a", 0)
            twin = pool.twin()
            self.raises(error, pool.run, 20)
            self.raises(error, pool.ahead)
            self.raises(error, pool.bound)
            self.is_same((pool == twin, pool.deeds), (True, 2))
            self.is_same(len(pool.run(1)), 2)
        pool.rule = By(lambda rest: 1 // 0)
        for call in (pool.ahead, pool.bound, lambda: pool.run(9)):
            with self.assertRaises(ZeroDivisionError):
                call()


class AheadTest(Case):
    def test_the_rules_lists(self):
        for rule in RULES:
            pool = Pool(PLAIN, rule)
            self.is_same(pool.ahead(), Chunks())
            done = Chunks()
            for name, items in (("x", 13), ("y", 1), ("z", 40)):
                pool.add(name, items)
                done = done + rule.list_for(items)
                self.is_same(pool.ahead(), done)
            pool["y"] = 0
            self.is_same(pool.ahead(), rule.list_for(13) + rule.list_for(40))

    def test_these_are_taken(self):
        random = Random(4)
        for at in range(150):
            setting = Setting(CREWS[at % len(CREWS)], 1, 2, at % 3)
            pool = Pool(setting, RULES[at % len(RULES)])
            for name in ("x", "y", "z")[:random.randrange(4)]:
                pool.add(name, random.randint(1, 12))
            for worker in setting.crew.workers:
                if random.randrange(2):
                    pool.come(worker, random.choice(TIMES))
            pool.run(random.choice(TIMES))
            ahead = pool.ahead()
            self.is_same(pool.bound(), lateness(ahead, setting) if ahead else None)
            pool.tried(lambda same: self.taken_as(same, ahead))

    def taken_as(self, pool, ahead):
        if pool.here:
            self.is_same(tuple(row.many for row in pool.run(10 ** 9)), ahead.sizes)

    def test_five_thousand_chunks(self):
        calls = []
        pool = Pool(PLAIN, By(lambda rest: calls.append(rest) or 1))
        pool.add("x", 3000)
        pool.add("y", 2000)
        self.is_same(len(pool.ahead()), 5000)
        self.is_same(len(calls), 5000)
        pool.add("z", 1)
        self.raises(TooMany("chunks", 5000), pool.ahead)
        self.raises(TooMany("chunks", 5000), pool.bound)
        self.is_same(len(calls), 15000)
        pool["y"] = GREAT
        pool.rule = Fixed(1)
        self.raises(TooMany("chunks", 5000), pool.ahead)
        pool.rule = Fixed(GREAT)
        self.is_same(pool.ahead(), Chunks(3000, GREAT, 1))

    def test_the_fact_about_the_bound(self):
        # Whoever comes is ready when it is free or comes, not ahead of now; the last end is no later than this.
        random = Random(5)
        equal = 0
        for at in range(300):
            setting = Setting(CREWS[at % len(CREWS)], 1, 2, at % 2)
            pool = Pool(setting, RULES[at % len(RULES)], lambda name, size: size * (1 + size % 2))
            pool.add("x", random.randint(1, 20))
            for worker in setting.crew.workers:
                if random.randrange(2) or worker == setting.crew.workers[0]:
                    pool.come(worker, random.choice(TIMES))
            pool.run(random.choice(TIMES))
            pool.add("y", random.randint(1, 9))
            bound = pool.bound()
            ready = {worker: max(exact(pool.busy_until(worker)), exact(pool.now)) for worker in pool.here}
            told = pool.run(10 ** 9)
            cost = sum(row.many * (1 + row.many % 2) for row in told)
            perfect = perfect_end(setting.crew, {name: ratio(moment) for name, moment in ready.items()}, cost)
            last = Ratio.greatest([row.ended for row in told])
            self.assertTrue(last - perfect <= bound)
            equal += last - perfect == bound
        self.assertTrue(equal > 0)

    def test_without_workers_and_without_loops(self):
        pool = Pool(PLAIN, Fixed(4))
        self.is_same((pool.bound(), str(pool.ahead())), (None, "-"))
        pool.add("x", 8)
        self.is_same((str(pool.bound()), str(pool.ahead())), ("2", "4 4"))
        pool["x"] = 0
        self.is_same((pool.bound(), str(pool.ahead())), (None, "-"))


class BackTest(Case):
    def test_each_kind_of_deed(self):
        pool = Pool(Setting(Crew.even(3)), Fixed(2))
        states = [pool.twin()]
        words = []
        for word, deed in (("rule", lambda: pool.set_rule(Fixed(2))), ("run", lambda: pool.run(0)),
                           ("add", lambda: pool.add("x", 5)), ("set", lambda: pool.__setitem__("x", 5)),
                           ("come", lambda: pool.come("b", 1)), ("run", lambda: pool.run(2)), ("run", lambda: pool.run(2)),
                           ("set", lambda: pool.__setitem__("x", 0)), ("rule", lambda: setattr(pool, "rule", Fixed(3))),
                           ("add", lambda: pool.add("y", 7)), ("come", lambda: pool.come("a", 2)),
                           ("set", lambda: pool.__setitem__("x", 4)), ("run", lambda: pool.run(9))):
            deed()
            words.append(word)
            states.append(pool.twin())
        for word in words[::-1]:
            self.is_same(pool == states.pop(), True)
            self.is_same(pool.undo(), word)
        self.is_same((pool == states.pop(), pool.deeds), (True, 0))
        self.raises(Nothing(), pool.undo)
        self.raises(Nothing(), pool.undo)

    def test_behind_what_is_taken_back_all_goes_on(self):
        pool = Pool(PLAIN, Fixed(2))
        pool.add("x", 5)
        pool.undo()
        pool.add("x", 7)
        pool.come("a", 0)
        pool.undo()
        pool.come("a", 3)
        self.is_same((pool.waiting, pool.busy_until("a"), pool.deeds), ((("x", 7),), Ratio(3), 2))

    def test_trials(self):
        pool = some_pool()
        twin, deeds, log = pool.twin(), pool.deeds, pool.log
        with pool.trial() as same:
            self.assertIs(same, pool)
            pool.run(500)
            pool.add("more", 3)
            self.is_same(pool == twin, False)
            with pool.trial() as again:
                again["more"] = 0
                again.rule = Fixed(9)
                while again.deeds:
                    again.undo()
                self.is_same(again == Pool(pool.setting, Divided(1, 1, 2)), True)
                self.raises(Nothing(), again.undo)
                again.add("other", 1)
            self.is_same((pool["more"], "other" in pool, pool.deeds), (3, False, deeds + 2))
            self.is_same(pool.undo(), "add")
        self.is_same((pool == twin, pool.deeds, pool.log == log), (True, deeds, True))
        self.is_same(pool.undo(), "run")

    def test_trials_left_by_an_error(self):
        pool = some_pool()
        twin, deeds = pool.twin(), pool.deeds
        for error in (ValueError("x"), KeyError(1), BadSize(2), TooMany("x", 1)):
            with self.assertRaises(type(error)) as caught:
                with pool.trial():
                    with pool.trial() as same:
                        same.undo()
                        same.run(90)
                        raise error
            self.assertIs(caught.exception, error)
            self.is_same((pool == twin, pool.deeds), (True, deeds))

    def test_one_block_twice(self):
        pool = some_pool()
        twin = pool.twin()
        block = pool.trial()
        for _ in range(2):
            with block:
                pool.undo()
                with block as same:
                    same.undo()
                    same.undo()
                self.is_same(pool.deeds, 7)
            self.is_same((pool == twin, pool.deeds), (True, 8))
        pool.add("more", 1)
        with block:
            pool.undo()
        self.is_same((pool["more"], pool.deeds), (1, 9))

    def test_tried(self):
        pool = some_pool()
        twin, deeds = pool.twin(), pool.deeds
        for value in everything():
            told = pool.tried(lambda same: [same.undo(), same.run(70), value][-1])
            self.assertIs(told, value)
        self.is_same(pool.tried(ask=lambda same: same is pool), True)
        self.is_same(pool.tried(lambda same: same.tried(lambda again: again.undo()) + same.undo()), "runrun")
        with self.assertRaises(ZeroDivisionError):
            pool.tried(lambda same: same.undo() and 1 // 0)
        self.is_same((pool == twin, pool.deeds), (True, deeds))

    def test_twin_goes_its_own_way(self):
        calls = []
        pool = Pool(PLAIN, Fixed(2), lambda name, size: calls.append(name) or size)
        pool.add("x", 8)
        pool.come("a", 0)
        twin = pool.twin()
        self.is_same((pool == twin, twin == pool, pool is twin, twin.deeds), (True, True, False, 0))
        self.raises(Nothing(), twin.undo)
        twin.run(1)
        self.is_same((pool == twin, len(calls), pool.now, pool.deeds), (False, 1, Ratio(0), 2))
        pool.run(1)
        self.is_same((pool == twin, len(calls)), (True, 2))
        twin.undo()
        self.is_same((len(twin.log), len(pool.log)), (0, 1))

    def test_equality(self):
        def made(setting=PLAIN, rule=Fixed(2), loops=(("x", 4), ("y", 2)), here=(("a", 0), ("b", 1)), until=1, work=None):
            pool = Pool(setting, rule, work)
            for name, items in loops:
                pool.add(name, items)
            for worker, time in here:
                pool.come(worker, time)
            pool.run(until)
            return pool

        pool = made()
        for same in (made(), made(here=(("b", 1), ("a", 0))), made(work=lambda name, size: size), made(rule=Fixed(2))):
            self.is_same(pool == same, True)
        calm = made(until=0, here=())
        for other in (made(setting=Setting(Crew.even(3))), made(rule=Fixed(3)), made(until=2), made(here=(("a", 0),)),
                      made(loops=(("y", 2), ("x", 4))), made(loops=(("x", 4), ("z", 2))), made(here=(("a", 0), ("b", 2))),
                      made(loops=(("x", 4), ("y", 3))), calm):
            self.is_same(pool == other, False)
        self.is_same(made(until=0, here=(), loops=(("x", 4), ("y", 2))) == calm, True)
        self.is_same(made(until=0, here=(), loops=(("y", 2), ("x", 4))) == calm, False)
        for one, other in ((lambda pool: pool.set_rule(Fixed(3)), lambda pool: pool.set_rule(Fixed(4))),
                           (lambda pool: pool.run(1), lambda pool: pool.run(Ratio(3, 2))),
                           (lambda pool: pool.add("x", 4), lambda pool: pool.add("x", 5)),
                           (lambda pool: pool.come("a", 1), lambda pool: pool.come("b", 1)),
                           (lambda pool: pool.come("a", 1), lambda pool: pool.come("a", 2))):
            told = [Pool(PLAIN, Fixed(2)) for _ in range(3)]
            for deed, changed in zip((one, other, one), told):
                deed(changed)
            self.is_same((told[0] == told[1], told[0] == told[2]), (False, True))
        # Only the logs are unlike: a has worked until 2, or has come then.
        one, other = Pool(PLAIN, Fixed(2)), Pool(PLAIN, Fixed(2))
        one.add("x", 2)
        one.come("a", 0)
        other.add("x", 2)
        other["x"] = 0
        other.come("a", 2)
        one.run(2)
        other.run(2)
        self.is_same((one.waiting, one.busy_until("a"), one["x"]), (other.waiting, other.busy_until("a"), other["x"]))
        self.is_same(one == other, False)
        # Loops that have nothing left count.
        one, other = Pool(PLAIN, Fixed(2)), Pool(PLAIN, Fixed(2))
        one.add("x", 2)
        one["x"] = 0
        self.is_same(one == other, False)
        other.add("x", 9)
        other["x"] = 0
        self.is_same((one == other, one.deeds == other.deeds), (True, True))
        other.run(0)
        self.is_same(one == other, True)
        for value in but(Pool):
            self.is_same(pool == value, False)
        self.is_same(Pool(PLAIN, By(a_function)) == Pool(PLAIN, By(a_function)), True)


class WrongTest(Case):
    def setUp(self):
        self.pool = some_pool()
        self.twin, self.deeds = self.pool.twin(), self.pool.deeds

    def tearDown(self):
        self.is_same((self.pool == self.twin, self.pool.deeds), (True, self.deeds))

    def test_made(self):
        for value in but(Setting):
            self.raises(BadPool("setting"), Pool, value, value)
            self.raises(BadPool("setting"), Pool, rule=Fixed(1), setting=value)
        for value in everything():
            if not isinstance(value, Rule):
                self.raises(BadPool("rule"), Pool, PLAIN, value)
                self.raises(BadPool("rule"), self.pool.set_rule, value)
                self.raises(BadPool("rule"), self.pool.set_rule, rule=value)
                self.raises(BadPool("rule"), setattr, self.pool, "rule", value)

    def test_add(self):
        for value in everything() + ["none", "Aa", "a1", "abcdefghi"]:
            if not isinstance(value, str) or value not in ("a", "abcdefgh"):
                self.raises(BadName(value), self.pool.add, value, value)
                self.raises(BadName(value), self.pool.add, items=1, name=value)
        for name in ("first", "then", "last"):
            for value in everything():
                self.raises(BadPool("twice"), self.pool.add, name, value)
        for value in integers_but(1, GREAT):
            self.raises(BadTotal(value), self.pool.add, "more", value)
        for items in (1, GREAT):
            with self.pool.trial():
                self.pool.add("nony", items)

    def test_items(self):
        for value in everything() + ["none", "firs"]:
            self.raises(BadPool("loop"), lambda: self.pool[value])
            self.raises(BadPool("loop"), self.pool.__setitem__, value, value)
            self.raises(BadPool("loop"), self.pool.end_of, value)
            self.is_same(value in self.pool, False)
        for value in integers_but(0, GREAT):
            self.raises(BadTotal(value), self.pool.__setitem__, "first", value)
        for name in ("then", "last"):
            self.raises(BadPool("open"), self.pool.end_of, name=name)

    def test_come(self):
        pool = Pool(PLAIN, Fixed(1))
        pool.come("b", 0)
        pool.run(3)
        for value in everything() + ["c", "ab"]:
            if not isinstance(value, str) or value != "a":
                self.raises(NoWorker(value), pool.come, value, value)
                self.raises(NoWorker(value), pool.busy_until, value)
            self.raises(BadPool("here"), pool.come, "b", value)
            if type(value) not in (int, Ratio) or value < 3:
                self.raises(BadPool("time"), pool.come, "a", value)
                self.raises(BadPool("time"), pool.come, time=value, worker="a")
                self.raises(BadPool("time"), pool.run, value)
                self.raises(BadPool("time"), pool.run, until=value)
        self.raises(BadPool("time"), pool.come, "a", Ratio(299, 100))
        self.raises(NoWorker("a"), pool.busy_until, "a")
        self.raises(NoWorker("a"), pool.busy_until, worker="a")
        self.is_same((pool.deeds, pool.now, pool.here), (2, Ratio(3), ("b",)))
        pool.come("a", 3)
        self.is_same(pool.run(3), ())

    def test_names_of_arguments(self):
        pool = Pool(setting=PLAIN, rule=Fixed(2), work=None)
        pool.add(name="x", items=3)
        pool.come(worker="a", time=1)
        self.is_same(len(pool.run(until=1)), 1)
        self.is_same((pool.busy_until(worker="a"), pool["x"]), (Ratio(3), 1))
        pool.set_rule(rule=Fixed(1))
        self.is_same(issubclass(LateError, ValueError), True)
