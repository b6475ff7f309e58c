"""Lists of chunks."""

from itertools import accumulate

from latechunks.chunks import Chunks
from latechunks.errors import BadChunks, BadSize, BadText, BadTotal, NoChunk, TooMany
from latechunks.ratios import Ratio
from tests.helper import Case, but, everything

GREAT = 10 ** 30


def lists_of(total):
    """All lists of sizes with a total."""
    if total == 0:
        return [()]
    return [(size, *more) for size in range(1, total + 1) for more in lists_of(total - size)]


SMALL = [sizes for total in range(6) for sizes in lists_of(total)]


def ends_of(sizes):
    return set(accumulate(sizes))


def sizes_of(ends):
    row = sorted(ends)
    return tuple(end - begin for begin, end in zip([0, *row], row))


def no_sizes():
    return [value for value in everything() if type(value) is not int or not 1 <= value <= GREAT]


class MadeTest(Case):
    def test_attributes(self):
        for sizes in SMALL + [(GREAT,), (1, GREAT, 7), (GREAT,) * 5000, tuple(range(1, 5001))]:
            for chunks in (Chunks(*sizes), Chunks.of(sizes), Chunks.of(sizes=list(sizes))):
                self.assertIs(type(chunks), Chunks)
                self.is_same(chunks.sizes, sizes)
                self.is_same(chunks.total, sum(sizes))
                self.is_same(chunks.ends, tuple(accumulate(sizes)))
                self.is_same(chunks.rests, tuple(sum(sizes) - end + size for end, size in zip(accumulate(sizes), sizes)))
                self.is_same(len(chunks), len(sizes))
                self.is_same(bool(chunks), bool(sizes))
                self.is_same(list(chunks), list(sizes))
        self.is_same(Chunks.MOST, 5000)
        self.is_same(Chunks().MOST, 5000)

    def test_wrong_sizes(self):
        for value in no_sizes():
            self.raises(BadSize(value), Chunks, value)
            self.raises(BadSize(value), Chunks, 3, value, 0)
            self.raises(BadSize(value), Chunks.of, (3, value, None))
            self.raises(BadSize(value), Chunks.of, [value])

    def test_too_many(self):
        self.raises(TooMany("chunks", 5000), Chunks, *[1] * 5001)
        self.raises(TooMany("chunks", 5000), Chunks.of, [GREAT] * 6000)
        self.raises(BadSize(0), Chunks, *[1] * 5001, 0)
        self.raises(BadSize(True), Chunks.of, [1] * 5500 + [True])

    def test_of_other_kinds(self):
        for value in but(list, tuple):
            self.raises(BadChunks("sizes"), Chunks.of, value)
            self.raises(BadChunks("sizes"), Chunks.of, sizes=value)

    def test_later_changes_have_no_effect(self):
        row = [4, 2]
        chunks = Chunks.of(row)
        row.append(7)
        row[0] = 0
        self.assertEqual((chunks.sizes, list(chunks), chunks.total), ((4, 2), [4, 2], 6))

    def test_contains(self):
        for sizes in [(1, 2, 7), (), (GREAT, 60), (2,)]:
            for value in everything():
                self.is_same(value in Chunks(*sizes), type(value) is int and value in sizes)
        self.assertEqual([Ratio(1) in Chunks(1), True in Chunks(1), (1,) in Chunks(1)], [False, False, False])


class PartsTest(Case):
    def test_indexes(self):
        for sizes in SMALL:
            chunks = Chunks(*sizes)
            for at in range(-7, 8):
                if 0 <= at < len(sizes):
                    self.is_same(chunks[at], sizes[at])
                else:
                    self.raises(NoChunk(at), lambda: chunks[at])
            for at in (10 ** 49, -10 ** 49, 5000):
                self.raises(NoChunk(at), lambda: chunks[at])

    def test_slices(self):
        parts = [None, -10 ** 49, -9, -3, -1, 0, 1, 2, 4, 9, 10 ** 49]
        steps = [None, 1, 2, 3, 9, 10 ** 49, -1, -2, -3, -10 ** 49]
        for sizes in [(), (5,), (4, 2, 7, 1), (3, 1, 4, 1, 5, 9)]:
            for begin in parts:
                for end in parts:
                    for step in steps:
                        told = Chunks(*sizes)[begin:end:step]
                        self.assertIs(type(told), Chunks)
                        self.is_same(told.sizes, sizes[begin:end:step])

    def test_cut(self):
        for sizes in SMALL:
            chunks = Chunks(*sizes)
            for at in range(chunks.total + 1):
                ends = ends_of(sizes)
                front = sizes_of({end for end in ends if end <= at} | ({at} if at else set()))
                back = sizes_of({end - at for end in ends if end > at})
                for told in (chunks.cut(at), chunks.cut(at=at)):
                    self.assertIs(type(told), tuple)
                    self.assertEqual([part.sizes for part in told], [front, back])
            for at in (-1, chunks.total + 1, 10 ** 49, True, False, Ratio(0)):
                self.raises(BadChunks("at"), chunks.cut, at)
        self.assertEqual([str(part) for part in Chunks(4, 2).cut(3)], ["3", "1 2"])
        self.assertEqual([part.total for part in Chunks(GREAT, GREAT).cut(GREAT + 1)], [GREAT + 1, GREAT - 1])

    def test_place_of(self):
        for sizes in SMALL:
            chunks = Chunks(*sizes)
            items = [place for place, size in enumerate(sizes) for _ in range(size)]
            for item, place in enumerate(items):
                self.is_same(chunks.place_of(item), place)
                self.is_same(chunks.place_of(item=item), place)
            for item in (-1, chunks.total, 10 ** 49, True, False, Ratio(0)):
                self.raises(BadChunks("item"), chunks.place_of, item)
        self.is_same(Chunks(GREAT, GREAT).place_of(GREAT), 1)
        self.is_same(Chunks(GREAT, GREAT).place_of(GREAT - 1), 0)

    def test_values_of_all_kinds(self):
        chunks = Chunks(4, 2, 1)
        for value in everything():
            if type(value) is not int or not 0 <= value <= 7:
                self.raises(BadChunks("at"), chunks.cut, value)
            if type(value) is not int or not 0 <= value <= 6:
                self.raises(BadChunks("item"), chunks.place_of, value)


class SignsTest(Case):
    def test_sums(self):
        for one in SMALL:
            for other in SMALL[::3]:
                self.is_same((Chunks(*one) + Chunks(*other)).sizes, one + other)
        for value in but(Chunks):
            self.raises(BadChunks("other"), lambda: Chunks(1) + value)
        many = Chunks.of([1] * 2500)
        self.is_same(len(many + many), 5000)
        self.raises(TooMany("chunks", 5000), lambda: many + Chunks.of([1] * 2501))

    def test_times(self):
        for sizes in SMALL:
            for times in range(4):
                self.is_same((Chunks(*sizes) * times).sizes, sizes * times)
                self.is_same((times * Chunks(*sizes)).sizes, sizes * times)
        for value in everything():
            if type(value) is not int or value < 0:
                self.raises(BadChunks("times"), lambda: Chunks(1, 2) * value)
                self.raises(BadChunks("times"), lambda: Chunks() * value)
        for value in (-1, True, None, "a", [1], (1,), {}, -10 ** 49):
            self.raises(BadChunks("times"), lambda: value * Chunks(1, 2))
        self.is_same(len(Chunks(1, 2) * 2500), 5000)
        for times in (2501, 10 ** 20, 10 ** 49):
            self.raises(TooMany("chunks", 5000), lambda: Chunks(1, 2) * times)
            self.raises(TooMany("chunks", 5000), lambda: times * Chunks(1, 2))
            self.assertEqual((Chunks() * times, times * Chunks()), (Chunks(), Chunks()))

    def test_the_other_way_round(self):
        for sizes in SMALL:
            self.is_same((~Chunks(*sizes)).sizes, sizes[::-1])

    def test_in_place(self):
        one, other = Chunks(4, 2, 2), Chunks(3, 5)
        kept = one
        one += other
        self.assertEqual((one.sizes, kept.sizes, other.sizes), ((4, 2, 2, 3, 5), (4, 2, 2), (3, 5)))
        one = kept
        one *= 2
        self.assertEqual((one.sizes, kept.sizes), ((4, 2, 2) * 2, (4, 2, 2)))
        one = kept
        one &= other
        self.assertEqual((one.sizes, kept.sizes, other.sizes), ((3, 1, 2, 2), (4, 2, 2), (3, 5)))
        one = kept
        one |= Chunks(6, 2)
        self.assertEqual((one.sizes, kept.sizes), ((6, 2), (4, 2, 2)))
        with self.assertRaises(BadChunks):
            kept += 3
        self.assertEqual(kept.sizes, (4, 2, 2))


class FineTest(Case):
    def test_all_small_pairs(self):
        for one in SMALL:
            for other in SMALL:
                first, second = Chunks(*one), Chunks(*other)
                joint = sum(one) == sum(other)
                fine = joint and ends_of(other) <= ends_of(one)
                self.is_same(first <= second, fine)
                self.is_same(first < second, fine and one != other)
                self.is_same(second >= first, fine)
                if joint:
                    self.is_same((first & second).sizes, sizes_of(ends_of(one) | ends_of(other)))
                    self.is_same((first | second).sizes, sizes_of(ends_of(one) & ends_of(other)))
                else:
                    self.raises(BadChunks("total"), lambda: first & second)
                    self.raises(BadChunks("total"), lambda: first | second)

    def test_other_values(self):
        for value in but(Chunks):
            self.raises(BadChunks("other"), lambda: Chunks(4) <= value)
            self.raises(BadChunks("other"), lambda: Chunks(4) < value)
            self.raises(BadChunks("other"), lambda: Chunks(4) & value)
            self.raises(BadChunks("other"), lambda: Chunks(4) | value)

    def test_bounds(self):
        one, other = Chunks(GREAT, 5, GREAT), Chunks(GREAT - 1, 7, GREAT - 1)
        self.is_same((one & other).sizes, (GREAT - 1, 1, 5, 1, GREAT - 1))
        self.raises(BadSize(2 * GREAT + 5), lambda: one | other)
        self.raises(BadSize(GREAT + 5), lambda: Chunks(1, GREAT, 5, GREAT, 7) | Chunks(1, GREAT + 5 - 9, 9, GREAT - 1, 8))
        self.is_same((Chunks(GREAT - 1, 1) | Chunks(1, GREAT - 1)).sizes, (GREAT,))
        row = Chunks.of([2] * 4000)
        self.raises(TooMany("chunks", 5000), lambda: row & Chunks.of([1] + [2] * 3999 + [1]))
        half = Chunks.of([1, 1] * 1000 + [2] * 3000)
        self.is_same(len(row & half), 5000)
        self.raises(TooMany("chunks", 5000), lambda: row & Chunks.of([1, 1] * 1001 + [2] * 2998 + [1, 1]))
        self.raises(BadChunks("total"), lambda: Chunks.of([GREAT] * 5000) & Chunks(1))

    def test_equal_beside_any_value(self):
        for value in everything():
            expected = type(value) is Chunks and value.sizes == (4, 4)
            self.is_same(Chunks(4, 4) == value, expected)
            self.is_same(Chunks(4, 4) != value, not expected)
        self.assertEqual([Chunks() == Chunks(), Chunks(1, 2) == Chunks(2, 1), Chunks(1) == (1,)], [True, False, False])


class TextTest(Case):
    def test_there_and_back(self):
        for sizes in SMALL + [(GREAT,), (GREAT, 1, GREAT), (1,) * 5000]:
            text = " ".join(map(str, sizes)) or "-"
            self.is_same(str(Chunks(*sizes)), text)
            self.is_same(Chunks.read(text).sizes, sizes)
            self.is_same(str(Chunks.read(text=text)), text)

    def test_words_that_cannot_stand(self):
        wrong = {"": 0, " ": 0, "- ": 1, " -": 0, "- 1": 1, "1 -": 1, "- -": 1, "0": 0, "1 0": 1, "1 2 -3 x": 2, "1 ": 1,
                 "1  2": 1, "01": 0, "4 04": 1, "1 +2": 1, str(GREAT + 1): 0, f"1 {GREAT + 1}": 1, "/": 0,
                 "1 /": 1, "1 2 / 3": 2, "a": 0, "1,2": 0, "1\n2": 0, "1 2\n": 1, "1 " + "9" * 9000: 1, "--": 0}
        for text, word in wrong.items():
            self.raises(BadText(0, word), Chunks.read, text)

    def test_what_is_no_text(self):
        for value in but(str):
            self.raises(BadText(0, 0), Chunks.read, value)
            self.raises(BadText(0, 0), Chunks.read, text=value)

    def test_too_many(self):
        self.raises(TooMany("chunks", 5000), Chunks.read, " ".join(["1"] * 5001))
        self.raises(BadText(0, 5001), Chunks.read, " ".join(["1"] * 5001 + ["x"]))


class CutTest(Case):
    def test_even(self):
        for total in range(30):
            for size in range(1, 33):
                sizes = (size,) * (total // size) + ((total % size,) if total % size else ())
                self.is_same(Chunks.even(total, size).sizes, sizes)
                self.is_same(Chunks.even(size=size, total=total).sizes, sizes)
        self.is_same(Chunks.even(GREAT, GREAT).sizes, (GREAT,))
        self.is_same(Chunks.even(GREAT, GREAT - 1).sizes, (GREAT - 1, 1))
        self.is_same(len(Chunks.even(GREAT, GREAT // 5000)), 5000)
        for total, size in ((GREAT, GREAT // 5000 - 1), (5001, 1), (GREAT, 1), (15000, 2), (10001, 2)):
            self.raises(TooMany("chunks", 5000), Chunks.even, total, size)
        self.is_same(len(Chunks.even(10000, 2)), 5000)
        self.is_same(len(Chunks.even(9999, 2)), 5000)

    def test_shared(self):
        for total in range(1, 30):
            for many in range(1, total + 1):
                told = Chunks.shared(total, many).sizes
                self.assertEqual((len(told), sum(told), told), (many, total, tuple(sorted(told, reverse=True))))
                self.assertLessEqual(told[0] - told[-1], 1)
                self.is_same(Chunks.shared(many=many, total=total).sizes, told)
            for many in (0, total + 1, -1, 10 ** 49):
                self.raises(BadSize(many), Chunks.shared, total, many)
        self.is_same(Chunks.shared(0, 0).sizes, ())
        self.raises(BadSize(1), Chunks.shared, 0, 1)
        self.is_same(Chunks.shared(GREAT, 3).sizes, (GREAT // 3 + 1, GREAT // 3, GREAT // 3))
        self.is_same(len(Chunks.shared(GREAT, 5000)), 5000)
        for many in (5001, GREAT):
            self.raises(TooMany("chunks", 5000), Chunks.shared, GREAT, many)

    def tapered(self, total, first, last):
        many = -(-2 * total // (first + last))
        step = (first - last) // (many - 1) if many > 1 else 0
        sizes = []
        while sum(sizes) < total:
            sizes.append(min(first - len(sizes) * step, total - sum(sizes)))
        return tuple(sizes)

    def test_tapered(self):
        for total in range(25):
            for first in range(1, 14):
                for last in range(1, first + 1):
                    told = Chunks.tapered(total, first, last)
                    self.is_same(told.sizes, self.tapered(total, first, last))
                    self.assertTrue(len(told) <= -(-2 * total // (first + last)) and told.total == total)
                    self.is_same(Chunks.tapered(last=last, first=first, total=total).sizes, told.sizes)
        self.is_same(Chunks.tapered(GREAT, GREAT, 1).sizes, (GREAT,))
        self.is_same(Chunks.tapered(GREAT, GREAT // 2, 1).sizes, self.tapered(GREAT, GREAT // 2, 1))
        self.is_same(len(Chunks.tapered(5000, 1, 1)), 5000)
        self.is_same(len(Chunks.tapered(10000, 2, 1)), 5000)
        for total, first, last in ((5001, 1, 1), (10001, 2, 1), (GREAT, 1, 1), (GREAT, GREAT // 10 ** 4, 1)):
            self.raises(TooMany("chunks", 5000), Chunks.tapered, total, first, last)

    def test_totals(self):
        for value in everything():
            if type(value) is not int or not 0 <= value <= GREAT:
                self.raises(BadTotal(value), Chunks.even, value, 0)
                self.raises(BadTotal(value), Chunks.shared, value, None)
                self.raises(BadTotal(value), Chunks.tapered, value, 0, 0)
                self.raises(BadTotal(value), Chunks.even, total=value, size=4)
        self.assertEqual([Chunks.even(0, 4), Chunks.tapered(0, 4, 2)], [Chunks(), Chunks()])

    def test_sizes(self):
        for value in no_sizes():
            self.raises(BadSize(value), Chunks.even, 9, value)
            self.raises(BadSize(value), Chunks.even, 0, value)
            self.raises(BadSize(value), Chunks.tapered, 9, value, None)
            self.raises(BadSize(value), Chunks.tapered, 0, 7, value)
            self.raises(BadSize(value), Chunks.shared, GREAT, value)
        for value in everything():
            if type(value) is not int or value != 0:
                self.raises(BadSize(value), Chunks.shared, 0, value)
        self.raises(BadSize(8), Chunks.tapered, 9, 7, 8)
        self.raises(BadSize(0), Chunks.tapered, GREAT, 1, 0)
        self.raises(BadSize(0), Chunks.even, GREAT, 0)
