"""Worlds."""

from fractions import Fraction
from itertools import permutations

from latechunks.errors import BadText, BadWorld, NoWorker
from latechunks.ratios import Ratio
from latechunks.worlds import World
from tests.helper import Case, but, everything
from tests.test_crews import NO_NAMES

EIGHT = tuple("abcdefgh")


def is_moment(value):
    return (type(value) is int or type(value) is Ratio) and value >= 0


def no_moments():
    return [value for value in everything() if not is_moment(value)]


def a_world():
    return World({"b": 0, "a": Ratio(5, 3)}, [2, 7], ("c", "a", "b"))


class MadeTest(Case):
    def test_attributes(self):
        for world in (a_world(), World(order=["c", "a", "b"], costs=(2, 7), ready={"a": Ratio(5, 3), "b": 0})):
            self.is_same(world.costs, (2, 7))
            self.is_same(world.order, ("c", "a", "b"))
            self.assertEqual(world.ready, {"a": Ratio(5, 3), "b": Ratio(0)})
            self.assertEqual([type(moment) for moment in world.ready.values()], [Ratio, Ratio])
            self.assertEqual((len(world), bool(world), str(world["a"]), world["b"]), (2, True, "5/3", 0))
            self.assertIs(type(world["b"]), Ratio)

    def test_ready_is_a_new_dict_each_time(self):
        world = a_world()
        told = world.ready
        told["c"] = 7
        del told["a"]
        self.assertEqual(world.ready, {"a": Ratio(5, 3), "b": 0})
        self.assertIsNot(world.ready, world.ready)
        self.assertEqual((str(world), list(world)), (str(a_world()), ["b", "a"]))

    def test_later_changes_have_no_effect(self):
        ready, costs, order = {"a": 1}, [3], ["b", "a"]
        world = World(ready, costs, order)
        ready["b"], ready["a"] = 0, 9
        costs.append(4)
        order.reverse()
        self.assertEqual(str(world), "a 1 / 3 / b a")

    def test_wrong_ready(self):
        for value in but(dict) + [{}]:
            self.raises(BadWorld("ready"), World, value, None, None)
        for value in no_moments():
            self.raises(BadWorld("ready"), World, {"a": value}, (), ("a",))
            self.raises(BadWorld("ready"), World, {"b": 0, "a": value}, [0], ())
        for word in NO_NAMES + [1, None, True, (), ("a",)]:
            self.raises(BadWorld("ready"), World, {"a": 0, word: 0}, (), EIGHT)

    def test_moments(self):
        for value in everything():
            if is_moment(value):
                self.assertEqual(World({"a": value}, (), ("a",))["a"], Ratio.of(value))

    def test_wrong_costs(self):
        for value in but(list, tuple):
            self.raises(BadWorld("costs"), World, {"a": 0}, value, ())
        for value in everything():
            if type(value) is not int or value < 1:
                self.raises(BadWorld("costs"), World, {"a": 0}, [1, value], None)
                self.raises(BadWorld("costs"), World, {"a": 0}, (value,), ("a",))
        for many in (5001, 6000):
            self.raises(BadWorld("costs"), World, {"a": 0}, [1] * many, ("a",))
        self.is_same(World({"a": 0}, [10 ** 49] * 5000, ("a",)).costs, (10 ** 49,) * 5000)
        self.is_same(World({"a": 0}, [], ("a",)).costs, ())

    def test_wrong_orders(self):
        for value in but(list, tuple):
            self.raises(BadWorld("order"), World, {"a": 0}, (), value)
        for value in [word for word in everything() + NO_NAMES if word not in ("a", "abcdefgh")]:
            self.raises(BadWorld("order"), World, {"a": 0}, (), ["a", value])
        for order in ((), [], ("a", "a"), ("b", "a", "b"), ("b",), EIGHT[1:], (*EIGHT, "i"), (*EIGHT, "a")):
            self.raises(BadWorld("order"), World, {"a": 0}, (), order)
        self.raises(BadWorld("order"), World, {name: 0 for name in (*EIGHT, "i")}, (), EIGHT)
        self.assertEqual(World({"h": 0}, (), EIGHT).order, EIGHT)

    def test_the_first_error(self):
        self.raises(BadWorld("ready"), World, {}, 0, 0)
        self.raises(BadWorld("costs"), World, {"z": 0}, 0, 0)
        self.raises(BadWorld("order"), World, {"z": 0}, (), ("a",))


class PartsTest(Case):
    def test_workers_that_come(self):
        world = a_world()
        for value in everything() + ["b", "c", "d"]:
            if type(value) is str and value in ("a", "b"):
                self.is_same(value in world, True)
                self.assertEqual(world[value], world.ready[value])
            else:
                self.is_same(value in world, False)
                self.raises(NoWorker(value), lambda: world[value])

    def test_by_moments_and_then_by_the_order(self):
        moments = {"a": 2, "b": Ratio(1, 2), "c": 2, "d": 0, "e": Ratio(4, 2)}
        for order in permutations(("a", "b", "c", "d", "e")):
            told = World(moments, (), ("never", *order))
            expected = sorted(order, key=lambda name: Fraction(str(moments[name])))
            self.assertEqual((list(told), len(told)), (expected, 5))
        self.assertEqual(list(World({name: 0 for name in reversed(EIGHT)}, (), EIGHT)), list(EIGHT))

    def test_with_ready(self):
        world = a_world()
        self.assertEqual(str(world.with_ready("c", 4)), "a 5/3 b 0 c 4 / 2 7 / c a b")
        self.assertEqual(str(world.with_ready("a", Ratio(1, 2))), "a 1/2 b 0 / 2 7 / c a b")
        self.assertEqual(str(world.with_ready(moment=None, worker="a")), "b 0 / 2 7 / c a b")
        self.assertEqual(world.with_ready("c", None), world)
        for value in everything() + ["z"]:
            if value not in ("a", "b", "c"):
                self.raises(NoWorker(value), world.with_ready, value, -1)
        for value in no_moments():
            if value is not None:
                self.raises(BadWorld("ready"), world.with_ready, "a", value)
                self.raises(BadWorld("ready"), world.with_ready, "c", value)
        self.raises(BadWorld("ready"), world.with_ready("a", None).with_ready, "b", None)
        self.assertEqual(str(world.with_ready("a", None).with_ready("a", 0)), "a 0 b 0 / 2 7 / c a b")
        self.assertEqual((world, str(world)), (a_world(), "a 5/3 b 0 / 2 7 / c a b"))

    def test_with_costs(self):
        world = a_world()
        for costs in ((), [5], (1,) * 5000):
            told = world.with_costs(costs=costs)
            self.assertEqual((told.costs, told.ready, told.order), (tuple(costs), world.ready, world.order))
        for value in [*but(list, tuple), [0], (True,), [1] * 5001, ["1"], [Ratio(1)]]:
            self.raises(BadWorld("costs"), world.with_costs, value)
        self.assertEqual(world, a_world())

    def test_with_order(self):
        world = a_world()
        for order in (("a", "b"), ["b", "z", "a"], EIGHT):
            told = world.with_order(order=order)
            self.assertEqual((told.order, told.ready, told.costs), (tuple(order), world.ready, world.costs))
        self.assertEqual(list(world.with_ready("a", 0)), ["a", "b"])
        self.assertEqual(list(world.with_ready("a", 0).with_order(("b", "a"))), ["b", "a"])
        for value in [*but(list, tuple), [], ["a"], ("a", "b", "b"), ("b", "c"), (*EIGHT, "i"), ["a", "b", "fee"]]:
            self.raises(BadWorld("order"), world.with_order, value)
        self.assertEqual(world, a_world())

    def test_later(self):
        world = a_world()
        self.assertEqual(str(world + Ratio(1, 3)), "a 2 b 1/3 / 2 7 / c a b")
        self.assertEqual(str(world + 3), "a 14/3 b 3 / 2 7 / c a b")
        self.assertEqual((world + 0, world + Ratio(0)), (world, world))
        for value in no_moments():
            self.raises(BadWorld("moment"), lambda: world + value)
        kept = world
        world += 1
        self.assertEqual((str(world), str(kept)), ("a 8/3 b 1 / 2 7 / c a b", "a 5/3 b 0 / 2 7 / c a b"))

    def test_equal_beside_any_value(self):
        world = a_world()
        for value in everything() + [a_world()]:
            expected = type(value) is World and str(value) == str(world)
            self.is_same(world == value, expected)
            self.is_same(world != value, not expected)
        for other in (world + 1, world.with_ready("c", 0), world.with_ready("a", None), world.with_costs((2, 8)),
                      world.with_costs(()), world.with_order(("a", "c", "b"))):
            self.assertFalse(world == other)


class TextTest(Case):
    def test_there_and_back(self):
        worlds = [a_world(), a_world().with_costs(()), a_world() + Ratio(10 ** 49, 7), World({"a": 0}, (), ("a",)),
                  World({name: at for at, name in enumerate(EIGHT)}, [10 ** 49] * 600, EIGHT[::-1])]
        for world in worlds:
            for back in (World.read(str(world)), World.read(text=str(world))):
                self.assertEqual((back, str(back)), (world, str(world)))
        self.assertEqual(str(worlds[1]), "a 5/3 b 0 / - / c a b")

    def test_numbers_of_any_length(self):
        text = f"a {'7' * 5000}/{'1' + '0' * 4999} b {'3' * 4500} / {'9' * 5000} 1 / b a"
        self.assertEqual(str(World.read(text)), text)

    def test_words_that_cannot_stand(self):
        wrong = {"": 0, "/": 0, "a": 1, "a 0": 2, "a 0 /": 3, "a 0 / -": 4, "a 0 / - /": 5, "a 0 / - / ": 5, "a 0 b": 3,
                 "a -1 / - / a": 1, "a 01 / - / a": 1, "a 2/4 / - / a": 1, "a -1/2 / - / a": 1, "a x / - / a": 1,
                 "A 0 / - / a": 0, "a 0 fee 0 / - / a": 2, "b 0 a 0 / - / a b": 2, "a 0 a 0 / - / a": 2,
                 "a 0 / / a": 3, "a 0 / 0 / a": 3, "a 0 / 1 0 / a": 4, "a 0 / -1 / a": 3, "a 0 / 1/2 / a": 3,
                 "a 0 / - 1 / a": 4, "a 0 / 1 - / a": 4, "a 0 / 1 2": 5, "a 0 / 1 2 /": 6, "a 0 / x / a": 3,
                 "a 0 / - / 1": 5, "a 0 / - / a a": 6, "a 0 / - / a b a": 7, "a 0 / - / a cost": 6, "a 0 / - / a /": 6,
                 "a 0 / - / a ": 6, "a 0 / - a": 4, "- / - / a": 0, "a 0 - / a": 2, "a  0 / - / a": 1, "a 0 / 01 / a": 3}
        for text, word in wrong.items():
            self.raises(BadText(0, word), World.read, text)

    def test_what_the_class_refuses(self):
        nine = " ".join((*EIGHT, "i"))
        self.raises(BadWorld("order"), World.read, f"a 0 / - / {nine}")
        self.raises(BadWorld("order"), World.read, "a 0 b 1 / - / b c")
        self.raises(BadWorld("order"), World.read, " ".join(f"{name} 0" for name in (*EIGHT, "i")) + f" / - / {nine}")
        self.raises(BadWorld("costs"), World.read, f"a 0 / {' '.join(['1'] * 5001)} / a")
        self.raises(BadText(0, 5005), World.read, f"a 0 / {' '.join(['1'] * 5001)} / 1")

    def test_what_is_no_text(self):
        for value in but(str):
            self.raises(BadText(0, 0), World.read, value)
            self.raises(BadText(0, 0), World.read, text=value)
