"""Batches, beside the same told item by item, and how late they can be, beside late at all rests to some thousands."""

from fractions import Fraction

from latechunks.batches import BatchBound, BatchEndless, Batched, greatest_batched
from latechunks.chunks import Chunks
from latechunks.crews import Crew
from latechunks.errors import BadRule, BadSetting, BadText, BadTotal
from latechunks.look_batches import shows_batched
from latechunks.papers import Denial
from latechunks.ratios import Ratio
from latechunks.settings import Setting
from tests.helper import Case, but, everything
from tests.test_settings import exact, integers_but, late

GREAT = 10 ** 30
PAIRS = [(many, over) for over in range(1, 25) for many in range(1, over + 1)]
CREWS = [Crew(a=1), Crew(b=7), Crew.even(2), Crew(a=1, b=3), Crew.even(3), Crew(a=2, b=5, c=7), Crew.even(4, 9),
         Crew(a=1, b=60), Crew(a=60, b=60, c=60, d=60, e=59), Crew.even(8, 60), Crew(a=1, b=2, c=3, d=4, e=5, f=6, g=7, h=8)]
COSTS = [(1, 1), (1, 2), (3, 7), (1, 60)]
SETTINGS = [Setting(crew, least, most) for crew in CREWS for least, most in COSTS]


def item_by_item(many, over, total):
    """The rows (rest, size, count) of batches, told item by item: each one goes to the chunk that is open."""
    rows = []
    left = total
    while left > 0:
        size = next(size for size in range(1, left + 1) if size * over >= left)
        rest, count, open_for = left, 0, 0
        while left > 0 and (open_for > 0 or count < many):
            if open_for == 0:
                count, open_for = count + 1, size
            left, open_for = left - 1, open_for - 1
        rows.append((rest, size, count))
    return rows


def sizes_of(rows):
    """The sizes of the chunks of rows of batches."""
    sizes = []
    for rest, size, count in rows:
        sizes += [min(size, rest - at * size) for at in range(count)]
    return sizes


def latest_batch(batched, setting, upto):
    """The triple (late, rest, spot) of the greatest late of batches that begin at rests up to one, the least ones."""
    x, y = (exact(one) for one in setting.straight())
    unit = x.denominator * y.denominator
    x, y = int(x * unit), int(y * unit)
    found = None
    for rest in range(1, upto + 1):
        size = -(-rest // batched.over)
        for spot in range(batched.many):
            left = rest - spot * size
            if left > 0:
                here = x * min(size, left) - y * left
                if found is None or here > found[0]:
                    found = (here, rest, spot)
    return Fraction(found[0], unit), found[1], found[2]


class BatchedTest(Case):
    def test_attributes(self):
        for many, over in PAIRS:
            for batched in (Batched(many, over), Batched(over=over, many=many)):
                self.is_same((batched.many, batched.over), (many, over))
                self.is_same(str(batched), f"batched {many} {over}")
                self.is_same(Batched.read(str(batched)) == batched, True)

    def test_item_by_item(self):
        for many, over in PAIRS[::3] + PAIRS[-3:]:
            for total in list(range(30)) + [over, 2 * over + 1, 97, 240]:
                rows = item_by_item(many, over, total)
                batched = Batched(many, over)
                self.is_same(list(batched.batches(total)), rows)
                self.is_same(batched.cut(total=total), Chunks.of(sizes_of(rows)))
                self.assertEqual([type(row) for row in batched.batches(total=total)], [tuple] * len(rows))

    def test_a_lesser_last_chunk_is_counted(self):
        self.assertEqual(list(Batched(3, 3).batches(7)), [(7, 3, 3)])
        self.assertEqual(str(Batched(3, 3).cut(7)), "3 3 1")
        self.assertEqual(list(Batched(4, 4).batches(5)), [(5, 2, 3)])
        self.assertEqual(list(Batched(1, 1).batches(5)), [(5, 5, 1)])
        self.assertEqual(list(Batched(2, 4).batches(0)), [])
        self.assertEqual(Batched(2, 4).cut(0), Chunks())

    def test_great_totals(self):
        for many, over in PAIRS[::7] + [(1, 24), (24, 24)]:
            for total in (GREAT, GREAT - 1, 10 ** 18 + 7):
                batched = Batched(many, over)
                chunks = batched.cut(total)
                left = total
                for rest, size, count in batched.batches(total):
                    self.assertEqual((rest, size), (left, -(-left // over)))
                    self.assertTrue(count == many or count * size >= rest)
                    self.assertTrue((count - 1) * size < rest)
                    left = max(0, left - count * size)
                self.assertEqual((left, chunks.total), (0, total))
                self.assertTrue(len(chunks) <= 1600)

    def test_equality(self):
        all_pairs = [Batched(many, over) for many, over in PAIRS[:60]]
        for at, one in enumerate(all_pairs):
            for against, other in enumerate(all_pairs):
                self.is_same(one == other, at == against)
            for value in everything():
                self.is_same(one == value, isinstance(value, Batched) and str(value) == str(one))

    def test_wrong_arguments(self):
        for value in integers_but(1, 24):
            for many in (1, 24, 25, value):
                self.raises(BadRule("over"), Batched, many, value)
        for over in (1, 7, 24):
            for value in integers_but(1, over) + [over + 1]:
                self.raises(BadRule("many"), Batched, many=value, over=over)
        for value in integers_but(0, GREAT):
            self.raises(BadTotal(value), Batched(2, 4).cut, value)
            self.raises(BadTotal(value), Batched(2, 4).cut, total=value)
            self.raises(BadTotal(value), lambda: next(iter(Batched(2, 4).batches(value))))
            self.raises(BadTotal(value), lambda: list(Batched(2, 4).batches(total=value)))


class TextTest(Case):
    def test_wrong_words(self):
        for text, word in (("", 0), ("batched", 1), ("batched 2", 2), ("batched 2 4 4", 3), ("batched 4 2", 2),
                           ("batched 0 4", 1), ("batched 25 25", 1), ("batched 2 25", 2), ("batched 24 23", 2),
                           ("batched 02 4", 1), ("batched 2 +4", 2), ("Batched 2 4", 0), ("divided 2 4", 0),
                           (" batched 2 4", 0), ("batched  2 4", 1), ("batched 2 4 ", 3), ("batched 2\n4", 1),
                           ("batched 2 4\n", 2), ("batched x y", 1), ("2 4", 0), ("batched 1 -1", 2)):
            self.raises(BadText(0, word), Batched.read, text)
        for value in but(str):
            self.raises(BadText(0, 0), Batched.read, text=value)


class GreatestBatchedTest(Case):
    def test_beside_all_rests(self):
        kinds = {}
        for at, (many, over) in enumerate(PAIRS):
            for setting in SETTINGS[at % 4::7]:
                batched = Batched(many, over)
                told = greatest_batched(batched, setting)
                kinds[type(told)] = kinds.get(type(told), 0) + 1
                if isinstance(told, BatchBound):
                    self.assertEqual((type(told.late), type(told.rest), type(told.spot)), (Ratio, int, int))
                    self.assertEqual((exact(told.late), told.rest, told.spot),
                                     latest_batch(batched, setting, over * over + 3 * over))
                else:
                    self.grows(batched, setting, told)
                self.is_same(greatest_batched(setting=setting, batched=batched), told)
                self.is_same(shows_batched(batched, setting, told), True)
        self.assertTrue(kinds[BatchBound] > 50 and kinds[BatchEndless] > 50)

    def grows(self, batched, setting, told):
        """Late of the last chunk of a batch grows by just the rise with each step of the rest."""
        many, over = batched.many, batched.over
        self.assertEqual((type(told), type(told.spot), type(told.rise), bool(told)), (BatchEndless, int, Ratio, False))
        self.assertEqual(told.spot, many - 1)
        self.assertTrue(told.rise > 0)
        for rest in (over, 5 * over, 5 * over - over // 2, 1000 * over):
            lates = []
            for begin in (rest, rest + over):
                size = -(-begin // over)
                left = begin - (many - 1) * size
                lates.append(late(setting, left, 0, min(size, left)) if left > 0 else None)
            if None not in lates and rest - (many - 1) * -(-rest // over) >= -(-rest // over):
                self.assertEqual(lates[1] - lates[0], exact(told.rise))

    def test_some_thousands_of_rests(self):
        for many, over, setting in ((2, 4, Setting(Crew.even(2))), (3, 8, Setting(Crew(a=1, b=3), 1, 2)),
                                    (1, 24, Setting(Crew.even(8, 60), 3, 7)), (24, 24, Setting(Crew(a=3), 2, 2)),
                                    (6, 24, Setting(Crew.even(3), 1, 3)), (20, 23, Setting(Crew.even(2)))):
            told = greatest_batched(Batched(many, over), setting)
            found = latest_batch(Batched(many, over), setting, 4000)
            if isinstance(told, BatchBound):
                self.assertEqual((exact(told.late), told.rest, told.spot), found)
            else:
                self.assertTrue(found[1] > 4000 - 2 * over)

    def test_late_of_the_lists(self):
        # No chunk of a list is later, whatever its place in it.
        for many, over in ((2, 4), (1, 3), (3, 9), (5, 20)):
            for setting in SETTINGS:
                told = greatest_batched(Batched(many, over), setting)
                if isinstance(told, BatchBound):
                    lates = [setting.late_of(rest, place, size) for total in (told.rest, 100, 1000, GREAT)
                             for chunks in [Batched(many, over).cut(total)]
                             for place, (rest, size) in enumerate(zip(chunks.rests, chunks.sizes))]
                    self.assertEqual(Ratio.greatest(lates), told.late)

    def test_by_hand(self):
        # One worker: late is nothing whatever it does. Three: the last third of all is late by two thirds of its size.
        self.assertEqual(greatest_batched(Batched(24, 24), Setting(Crew(a=5))), BatchBound(Ratio(0), 1, 0))
        self.assertEqual(greatest_batched(Batched(3, 3), Setting(Crew.even(3))), BatchEndless(2, Ratio(2, 3)))
        # Halves of 2 workers, one at a time: q - (2q - t) / 2 is t / 2, most at the rest 1.
        self.assertEqual(greatest_batched(Batched(1, 2), Setting(Crew.even(2))), BatchBound(Ratio(1, 2), 1, 0))

    def test_wrong_arguments(self):
        batched, setting = Batched(2, 4), Setting(Crew.even(2))
        for call in (greatest_batched, lambda batched, setting: shows_batched(batched, setting, None)):
            for value in but(Batched):
                for other in (setting, setting.with_fee(1), None, value):
                    self.raises(BadRule("batched"), call, value, other)
            for value in but(Setting):
                self.raises(BadSetting("setting"), call, batched=batched, setting=value)
            for fee in (1, GREAT):
                self.raises(BadSetting("fee"), call, batched, setting.with_fee(fee))


class PapersTest(Case):
    def test_papers(self):
        self.is_paper(BatchBound, "late, rest, spot")
        self.is_paper(BatchEndless, "spot, rise", Denial)


class ShowsBatchedTest(Case):
    def test_bounds_otherwise(self):
        for batched, setting in ((Batched(2, 4), Setting(Crew.even(2))), (Batched(1, 8), Setting(Crew(a=1, b=3), 1, 2)),
                                 (Batched(5, 20), Setting(Crew.even(4))), (Batched(7, 7), Setting(Crew(a=2)))):
            told = greatest_batched(batched, setting)
            self.assertIs(type(told), BatchBound)
            late_there, rest, spot = told.late, told.rest, told.spot
            self.is_same(shows_batched(value=told, setting=setting, batched=batched), True)
            wrong = [BatchBound(late_there + Ratio(1, 7), rest, spot), BatchBound(late_there - 1, rest, spot),
                     BatchBound(late_there, rest + 1, spot), BatchBound(late_there, rest, spot + 1),
                     BatchBound(late_there, Ratio(rest), spot), BatchBound(late_there, rest, Ratio(spot)),
                     BatchBound(Fraction(late_there.over, late_there.under), rest, spot),
                     BatchEndless(spot, late_there), BatchEndless(batched.many - 1, Ratio(1, 2))]
            if late_there.under == 1:
                wrong.append(BatchBound(late_there.over, rest, spot))
            if rest == 1:
                wrong.append(BatchBound(late_there, True, spot))
            if spot in (0, 1):
                wrong.append(BatchBound(late_there, rest, bool(spot)))
            for paper in wrong:
                self.is_same(shows_batched(batched, setting, paper), False)
            for value in everything():
                for paper in (value, BatchBound(value, rest, spot), BatchBound(late_there, value, spot),
                              BatchBound(late_there, rest, value)):
                    right = isinstance(paper, BatchBound) and paper == told
                    right = right and (type(paper.late), type(paper.rest), type(paper.spot)) == (Ratio, int, int)
                    self.is_same(shows_batched(batched, setting, paper), right)

    def test_endless_otherwise(self):
        for batched, setting in ((Batched(2, 2), Setting(Crew.even(2))), (Batched(1, 1), Setting(Crew(a=1, b=2), 1, 3)),
                                 (Batched(20, 24), Setting(Crew.even(8)))):
            told = greatest_batched(batched, setting)
            self.assertIs(type(told), BatchEndless)
            spot, rise = told.spot, told.rise
            wrong = [BatchEndless(spot + 1, rise), BatchEndless(spot - 1, rise), BatchEndless(spot, rise + 1),
                     BatchEndless(spot, -rise), BatchEndless(Ratio(spot), rise), BatchBound(rise, spot, 0),
                     BatchEndless(spot, Fraction(rise.over, rise.under))]
            if spot in (0, 1):
                wrong.append(BatchEndless(bool(spot), rise))
            for paper in wrong:
                self.is_same(shows_batched(batched, setting, paper), False)
            for value in everything():
                for paper in (value, BatchEndless(value, rise), BatchEndless(spot, value)):
                    right = isinstance(paper, BatchEndless) and (type(paper.spot), type(paper.rise)) == (int, Ratio)
                    self.is_same(shows_batched(batched, setting, paper), right and paper == told)

    def test_papers_exchanged(self):
        asked = [(Batched(many, over), setting) for many, over in ((1, 1), (1, 2), (2, 4), (3, 4), (2, 9), (9, 9))
                 for setting in SETTINGS[::3]]
        told = [greatest_batched(batched, setting) for batched, setting in asked]
        for (batched, setting), own in zip(asked, told):
            for paper in told:
                self.is_same(shows_batched(batched, setting, paper), paper == own)
