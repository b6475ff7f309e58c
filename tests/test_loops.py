"""Loops in a row: what they are, how late their ends can be, and their best orders beside all orders."""

from fractions import Fraction
from itertools import permutations
from random import Random

from latechunks.checks import is_name
from latechunks.chunks import Chunks
from latechunks.crews import Crew
from latechunks.errors import BadLoop, BadSetting, BadText, NoLoop, TooMany
from latechunks.late import lateness
from latechunks.look_loops import shows_best_order
from latechunks.loops import BestOrder, Loops, best_order, end_lateness
from latechunks.plays import Play
from latechunks.ratios import Ratio
from latechunks.settings import Setting
from latechunks.worlds import World
from tests.helper import Case, but, everything

TWO = Setting(Crew.even(2))
SETTINGS = [Setting(crew, least, most) for crew in (Crew(a=1), Crew.even(2), Crew(a=1, b=3), Crew(a=2, b=5, c=7))
            for least, most in ((1, 1), (1, 2), (3, 7))]
LOOPS = Loops(("fine", Chunks(1, 1, 1, 1)), ("rough", Chunks(4)), ("mid", Chunks(2, 1)))


def names(many):
    return ["l" + chr(97 + k // 26) + chr(97 + k % 26) for k in range(many)]


def drawn_loops(random, many):
    """Loops of small lists, some of them without chunks, in any order of names."""
    row = random.sample(names(2 * many), many)
    return Loops(*[(name, Chunks(*[random.choice((1, 1, 2, 3, 4, 7)) for _ in range(random.randrange(4))]))
                   for name in row])


def in_order(loops, order):
    """The list of the sizes of loops in an order."""
    return [size for name in order for size in dict(loops)[name]]


class LoopsTest(Case):
    def test_attributes(self):
        pairs = [(name, Chunks(k + 1, 1)) for k, name in enumerate(names(60))]
        for many in (0, 1, 2, 59, 60):
            loops = Loops(*pairs[:many])
            self.is_same(loops.names, tuple(names(60)[:many]))
            self.is_same(list(loops), pairs[:many])
            self.is_same((len(loops), bool(loops)), (many, many > 0))
            self.is_same(loops.joined(), Chunks(*[size for _, chunks in pairs[:many] for size in chunks]))
            for name, chunks in pairs[:many]:
                self.assertIs(loops[name], chunks)
                self.is_same(name in loops, True)
            for value in everything() + ["other", "l"]:
                self.is_same(value in loops, False)
                self.raises(NoLoop(value), lambda: loops[value])

    def test_too_many(self):
        pairs = [(name, Chunks()) for name in names(61)]
        self.raises(TooMany("loops", 60), Loops, *pairs)
        self.raises(BadLoop("twice"), Loops, *pairs, pairs[0])
        self.raises(BadLoop("pair"), Loops, *pairs, pairs[0], None)
        half = Chunks.even(2500, 1)
        self.assertEqual(len(Loops(("a", half), ("b", half)).joined()), 5000)
        self.raises(TooMany("chunks", 5000), Loops, ("a", half), ("b", half), ("c", Chunks(1)))
        self.raises(TooMany("loops", 60), Loops, *pairs[2:], ("a", half), ("b", half + Chunks(1)))
        self.raises(BadLoop("twice"), Loops, ("a", half), ("b", half), ("a", Chunks(1)))

    def test_wrong_pairs(self):
        good = ("a", Chunks(2))
        for value in everything() + [["a", Chunks(2)], ("a", Chunks(2), 1), ("a",), (Chunks(2), "a"), ("A", Chunks(2))]:
            self.raises(BadLoop("pair"), Loops, value)
            self.raises(BadLoop("pair"), Loops, good, good, value)
            if not is_name(value):
                self.raises(BadLoop("pair"), Loops, (value, Chunks(2)))
            if not isinstance(value, Chunks):
                self.raises(BadLoop("pair"), Loops, ("a", value), good)
        self.raises(BadLoop("twice"), Loops, good, ("b", Chunks()), ("a", Chunks(1)))

    def test_until(self):
        for at, name in enumerate(LOOPS.names):
            for told in (LOOPS.until(name), LOOPS.until(name=name)):
                self.is_same(told, Loops(*list(LOOPS)[:at + 1]))
        for value in everything() + ["", "fin", "none"]:
            self.raises(NoLoop(value), LOOPS.until, value)
            self.raises(NoLoop(value), Loops().until, name=value)

    def test_ordered(self):
        for order in permutations(LOOPS.names):
            told = LOOPS.ordered(*order)
            self.is_same(told.names, order)
            self.is_same(list(told), [(name, LOOPS[name]) for name in order])
        self.is_same(Loops().ordered(), Loops())
        for wrong in ((), ("fine",), ("fine", "rough"), ("fine", "rough", "fine"), ("fine", "rough", "mid", "mid"),
                      ("fine", "rough", "other"), (("fine", "rough", "mid"),), (["fine"], "rough", "mid")):
            self.raises(BadLoop("order"), LOOPS.ordered, *wrong)
        for value in everything():
            self.raises(BadLoop("order"), LOOPS.ordered, value, "rough", "mid")
            self.raises(BadLoop("order"), LOOPS.ordered, "fine", "rough", "mid", value)
            self.raises(BadLoop("order"), Loops().ordered, value)

    def test_added(self):
        one, other = Loops(("a", Chunks(2))), Loops(("c", Chunks()), ("b", Chunks(1)))
        self.is_same(one + other, Loops(("a", Chunks(2)), ("c", Chunks()), ("b", Chunks(1))))
        self.is_same(one + Loops(), one)
        same = kept = one
        same += other
        self.is_same(same, one + other)
        self.is_same((kept.names, len(kept)), (("a",), 1))
        for value in but(Loops):
            self.raises(BadLoop("other"), lambda: one + value)
        self.raises(BadLoop("twice"), lambda: one + other + one)
        many = Loops(*[(name, Chunks()) for name in names(60)])
        self.raises(TooMany("loops", 60), lambda: many + one)
        self.raises(BadLoop("twice"), lambda: many + Loops(("laa", Chunks()), ("x", Chunks())))
        great = Loops(("x", Chunks.even(5000, 1)))
        self.is_same(len((great + Loops(("y", Chunks()))).joined()), 5000)
        self.raises(TooMany("chunks", 5000), lambda: great + one)

    def test_equality(self):
        several = [Loops(), Loops(("a", Chunks())), Loops(("a", Chunks(2))), Loops(("b", Chunks(2))),
                   Loops(("a", Chunks(2)), ("b", Chunks())), Loops(("b", Chunks()), ("a", Chunks(2))), LOOPS]
        for at, one in enumerate(several):
            self.is_same(one == Loops(*list(one)), True)
            for against, other in enumerate(several):
                self.is_same(one == other, at == against)
            for value in but(Loops):
                self.is_same(one == value, False)

    def test_later_changes(self):
        pairs = [("a", Chunks(1)), ("b", Chunks(2))]
        loops = Loops(*pairs)
        pairs.append(("c", Chunks(3)))
        listed = list(loops)
        listed.clear()
        self.is_same(loops.names, ("a", "b"))
        self.is_same(len(list(loops)), 2)


class TextTest(Case):
    def test_there_and_back(self):
        random = Random(11)
        several = [Loops(), Loops(("a", Chunks())), LOOPS, Loops(*[(name, Chunks(1)) for name in names(60)])]
        several += [drawn_loops(random, many) for many in (1, 2, 3, 7, 20) for _ in range(8)]
        for loops in several:
            text = " ; ".join(f"{name} {chunks}" for name, chunks in loops) or "-"
            self.is_same(str(loops), text)
            self.is_same(Loops.read(text), loops)
            self.is_same(Loops.read(text=text), loops)
        self.is_same(str(Loops(("a", Chunks()), ("b", Chunks(3, 1)))), "a - ; b 3 1")

    def test_wrong_words(self):
        for text, word in (("", 0), ("- -", 1), ("- ; a 1", 1), ("a", 1), ("a ;", 1), ("a 1 ;", 3), ("a 1 ; b", 4),
                           ("a 1 ; ; b 1", 3), ("; a 1", 0), ("a 1 b 1", 2), ("a 1 ; b 0", 4), ("a 1 ; B 1", 3),
                           ("a 1 ; fee 1", 3), ("a 01", 1), ("a 1 -", 2), ("a - 1", 2), ("a - -", 2), ("a - ; b - ;", 6),
                           ("a 1;", 1), ("a 1 / 1", 2), ("abcdefghi 1", 0), ("a 1 ", 2), ("a  1", 1), ("a 1\n; b 1", 1),
                           ("a " + str(10 ** 30 + 1), 1), ("a 1 ; -", 3), ("none -", 0), ("1 a", 0)):
            self.raises(BadText(0, word), Loops.read, text)
        for value in but(str):
            self.raises(BadText(0, 0), Loops.read, text=value)

    def test_refused_by_the_class(self):
        self.raises(BadLoop("twice"), Loops.read, "a 1 ; b 2 ; a 3")
        self.raises(BadText(0, 7), Loops.read, "a 1 ; a 1 ; x")
        self.raises(TooMany("loops", 60), Loops.read, " ; ".join(f"{name} -" for name in names(61)))
        self.raises(BadLoop("twice"), Loops.read, " ; ".join(f"{name} -" for name in names(61) + ["laa"]))
        self.raises(TooMany("chunks", 5000), Loops.read, "a" + " 1" * 5000 + " ; b 1")
        self.raises(TooMany("chunks", 5000), Loops.read, "a" + " 1" * 5001)
        self.raises(BadLoop("twice"), Loops.read, "a" + " 1" * 5001 + " ; a 1")


class EndLatenessTest(Case):
    def test_beside_the_chunks_up_to_it(self):
        random = Random(5)
        for at in range(60):
            loops = drawn_loops(random, 1 + at % 6)
            for setting in SETTINGS[at % 3::3]:
                for fee in (0, 1, 7):
                    paid = setting.with_fee(fee)
                    done = []
                    for name, chunks in loops:
                        done += list(chunks)
                        told = end_lateness(loops, paid, name)
                        self.is_same(told, lateness(Chunks(*done), paid))
                        self.is_same(end_lateness(name=name, setting=paid, loops=loops), told)

    def test_none_without_chunks(self):
        loops = Loops(("a", Chunks()), ("b", Chunks()), ("c", Chunks(3)))
        self.is_same([end_lateness(loops, TWO, name) for name in "abc"], [None, None, Ratio(3, 2)])

    def test_no_play_is_later(self):
        # Later loops delay nothing: the ends of the chunks up to a loop, against the perfect end of their costs.
        random = Random(6)
        for _ in range(150):
            loops = drawn_loops(random, 3)
            chunks = loops.joined()
            setting = random.choice(SETTINGS).with_fee(random.choice((0, 1)))
            workers = list(setting.crew.workers)
            random.shuffle(workers)
            ready = {name: random.choice((0, 1, 2, Ratio(5, 2))) for name in workers}
            costs = [size * random.randint(setting.least, setting.most) for size in chunks]
            rows = list(Play(chunks, setting, World(ready, costs, workers)))
            for name in loops.names:
                front = loops.until(name).joined()
                if front:
                    play = Play(front, setting, World(ready, costs[:len(front)], workers))
                    self.assertEqual(list(play), rows[:len(front)])
                    self.assertTrue(play.late <= end_lateness(loops, setting, name))

    def test_wrong_arguments(self):
        for value in but(Loops):
            for other in (TWO, value):
                self.raises(BadLoop("loops"), end_lateness, value, other, value)
        for value in but(Setting):
            self.raises(BadSetting("setting"), end_lateness, LOOPS, value, "fine")
            self.raises(BadSetting("setting"), end_lateness, name=value, setting=value, loops=LOOPS)
        for value in everything():
            self.raises(NoLoop(value), end_lateness, LOOPS, TWO, value)


def own_lateness(setting, sizes):
    x, y = setting.straight()
    return max(x * size - y * sum(sizes[at:]) for at, size in enumerate(sizes))


class BestOrderTest(Case):
    def test_a_paper(self):
        self.is_paper(BestOrder, "names, late, last")

    def test_beside_all_orders(self):
        random = Random(7)
        for at in range(140):
            loops = drawn_loops(random, at % 6 if at % 20 else 6)
            setting = SETTINGS[at % len(SETTINGS)]
            told = best_order(loops, setting)
            self.assertEqual((type(told), type(told.names)), (BestOrder, tuple))
            self.assertEqual(sorted(told.names), sorted(loops.names))
            orders = [in_order(loops, order) for order in permutations(loops.names)]
            if not orders[0]:
                self.is_same((told.names, told.late, told.last), (tuple(sorted(loops.names)), None, None))
            else:
                self.is_same(told.late, own_lateness(setting, in_order(loops, told.names)))
                self.assertTrue(all(told.late <= own_lateness(setting, sizes) for sizes in orders))
                self.look_at_order(loops, setting, told)
            self.is_same(best_order(setting=setting, loops=loops), told)
            self.is_same(shows_best_order(loops, setting, told), True)

    def look_at_order(self, loops, setting, told):
        """Greater own latenesses stand ahead, of equal ones the lesser name, and last those without chunks."""
        chunks = dict(loops)
        full = [name for name in told.names if chunks[name]]
        self.assertEqual(full, list(told.names[:len(full)]))
        owns = {name: own_lateness(setting, list(chunks[name])) for name in full}
        for one, other in zip(full, full[1:]):
            self.assertTrue(owns[one] > owns[other] or (owns[one] == owns[other] and one < other))
        empty = list(told.names[len(full):])
        self.assertEqual(empty, sorted(empty))
        sizes = in_order(loops, told.names)
        x, y = setting.straight()
        place = [x * size - y * sum(sizes[at:]) for at, size in enumerate(sizes)].index(told.late)
        owners = [name for name in told.names for _ in chunks[name]]
        self.assertEqual(told.last, owners[place])

    def test_equal_ones_go_by_names(self):
        loops = Loops(("d", Chunks()), ("c", Chunks(1, 1)), ("b", Chunks(1)), ("e", Chunks(3)), ("a", Chunks()),
                      ("ba", Chunks(2, 1)))
        told = best_order(loops, TWO)
        self.is_same(told.names, ("e", "b", "ba", "c", "a", "d"))
        self.is_same((told.late, told.last), (Ratio(1, 2), "c"))

    def test_the_first_chunk_that_has_it(self):
        # 2 - 3/2 and 1 - 1/2.
        loops = Loops(("b", Chunks(1)), ("a", Chunks(2)))
        self.is_same(best_order(loops, TWO), BestOrder(("a", "b"), Ratio(1, 2), "a"))
        # One worker is never late, and only at the very last chunk not early.
        told = best_order(LOOPS, Setting(Crew(a=3), 2, 2))
        self.is_same(told, BestOrder(("fine", "mid", "rough"), Ratio(0), "rough"))

    def test_sixty_loops(self):
        loops = Loops(*[(name, Chunks.even(83, 1 + k % 5)) for k, name in enumerate(names(60))])
        told = best_order(loops, SETTINGS[-1])
        self.is_same(shows_best_order(loops, SETTINGS[-1], told), True)
        self.look_at_order(loops, SETTINGS[-1], told)

    def test_wrong_arguments(self):
        for call in (best_order, lambda loops, setting: shows_best_order(loops, setting, None)):
            for value in but(Loops):
                for setting in (TWO, TWO.with_fee(1), value):
                    self.raises(BadLoop("loops"), call, value, setting)
            for value in but(Setting):
                self.raises(BadSetting("setting"), call, setting=value, loops=LOOPS)
            for fee in (1, 10 ** 30):
                self.raises(BadSetting("fee"), call, LOOPS, TWO.with_fee(fee))


def is_right(loops, setting, names_told, told, last):
    """Whether a BestOrder of these parts is right, as the document says it; its names are just the names."""
    sizes = in_order(loops, names_told)
    if not sizes:
        return told is None and last is None
    if type(told) is not Ratio or told != own_lateness(setting, sizes) or not isinstance(last, str):
        return False
    if last not in loops.names or not loops[last]:
        return False
    up_to = names_told[:names_told.index(last) + 1]
    behind = sum(loops[name].total for name in names_told[len(up_to):])
    lowered = Ratio(setting.least * behind, setting.crew.speed)
    return all(own_lateness(setting, list(loops[name])) - lowered >= told for name in up_to if loops[name])


class ShowsBestOrderTest(Case):
    def test_all_orders(self):
        random = Random(8)
        counts = {True: 0, False: 0}
        for at in range(60):
            loops = drawn_loops(random, at % 5)
            setting = SETTINGS[at % len(SETTINGS)]
            for order in permutations(loops.names):
                sizes = in_order(loops, order)
                late = own_lateness(setting, sizes) if sizes else None
                for last in (*loops.names, None):
                    right = is_right(loops, setting, order, late, last)
                    counts[right] += 1
                    paper = BestOrder(order, late, last)
                    self.is_same(shows_best_order(loops, setting, paper), right)
                    self.is_same(shows_best_order(paper=paper, setting=setting, loops=loops), right)
        self.assertTrue(min(counts.values()) > 100, counts)

    def test_another_order_can_be_right(self):
        self.is_same(best_order(LOOPS, TWO).names, ("rough", "fine", "mid"))
        self.is_same(shows_best_order(LOOPS, TWO, BestOrder(("rough", "mid", "fine"), Ratio(1, 2), "fine")), True)
        self.is_same(shows_best_order(LOOPS, TWO, BestOrder(("fine", "rough", "mid"), Ratio(5, 2), "rough")), False)

    def test_parts_otherwise(self):
        told = best_order(LOOPS, TWO)
        wrong = [BestOrder(list(told.names), told.late, told.last), BestOrder(told.names[:2], told.late, told.last),
                 BestOrder(told.names + ("mid",), told.late, told.last), BestOrder(told.names, told.late + 1, told.last),
                 BestOrder(("rough", "fine", "fine"), told.late, told.last), BestOrder(told.names, None, None),
                 BestOrder(("rough", "fine", "other"), told.late, told.last), BestOrder(told.names, told.late, "other"),
                 BestOrder(told.names, Fraction(1, 2), told.last), BestOrder((["rough"], "fine", "mid"), told.late, "mid"),
                 BestOrder(told.names, told.late, "fine")]
        for paper in wrong:
            self.is_same(shows_best_order(LOOPS, TWO, paper), False)
        for value in everything():
            for paper in (value, BestOrder(value, told.late, told.last), BestOrder(told.names, told.late, value),
                          BestOrder(told.names, value, told.last)):
                right = isinstance(paper, BestOrder) and type(paper.late) is Ratio and paper == told
                self.is_same(shows_best_order(LOOPS, TWO, paper), right)

    def test_an_integer_is_no_lateness(self):
        loops = Loops(("a", Chunks(4)), ("b", Chunks()))
        self.is_same(best_order(loops, TWO), BestOrder(("a", "b"), Ratio(2), "a"))
        self.is_same(shows_best_order(loops, TWO, BestOrder(("a", "b"), 2, "a")), False)
        self.is_same(shows_best_order(loops, TWO, BestOrder(("b", "a"), Ratio(2), "a")), True)
        self.is_same(shows_best_order(loops, TWO, BestOrder(("a", "b"), Ratio(2), "b")), False)

    def test_without_chunks(self):
        loops = Loops(("b", Chunks()), ("a", Chunks()))
        self.is_same(best_order(loops, TWO), BestOrder(("a", "b"), None, None))
        for order in (("a", "b"), ("b", "a")):
            self.is_same(shows_best_order(loops, TWO, BestOrder(order, None, None)), True)
            for value in everything():
                if value is not None:
                    self.is_same(shows_best_order(loops, TWO, BestOrder(order, value, None)), False)
                    self.is_same(shows_best_order(loops, TWO, BestOrder(order, None, value)), False)
        self.is_same(shows_best_order(Loops(), TWO, BestOrder((), None, None)), True)
