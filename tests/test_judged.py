"""Rules judged for all lengths of loops, beside late at all rests to some thousands."""

from random import Random

from latechunks.crews import Crew
from latechunks.errors import BadLimit, BadRule, BadSetting
from latechunks.judged import Beyond, Bound, Endless, Within, greatest_late, within
from latechunks.late import lateness
from latechunks.look_judged import shows_beyond, shows_bound, shows_endless, shows_within
from latechunks.papers import Denial
from latechunks.ratios import Ratio
from latechunks.residues import pieces
from latechunks.rules import By, Divided, Fixed, Greater, Lesser
from latechunks.settings import Setting
from tests.helper import Case, a_function, but, everything
from tests.test_residues import GREAT, drawn_rules, last_turn

CREWS = [Crew(a=1), Crew.even(2), Crew.even(4), Crew(a=1, b=3), Crew(a=2, b=5, c=7), Crew.even(8, 60), Crew(a=4, b=5)]
SETTINGS = [Setting(crew, least, most) for crew in CREWS for least, most in ((1, 1), (1, 2), (3, 7))]
FAR = 1500


def late_at(rule, setting, rest):
    return setting.late_of(rest, 0, rule(rest))


def lates_to(rule, setting, many):
    """Late at the rests from 1 on: x and y are those of straight."""
    x, y = setting.straight()
    return [x * rule(rest) - y * rest for rest in range(1, many + 1)]


def near_rules(seed, many):
    """Rules that do not turn any more behind some thousands of rests."""
    return [rule for rule in drawn_rules(seed, many) if (last_turn(rule) + 3) * rule.modulus < FAR]


def first_of(values, wanted):
    return next((at + 1 for at, value in enumerate(values) if wanted(value)), None)


def pairs(seed, many):
    """Pairs of a rule and a setting, with late at all rests to some thousands."""
    for at, rule in enumerate(near_rules(seed, many)):
        setting = SETTINGS[at % len(SETTINGS)]
        yield rule, setting, lates_to(rule, setting, FAR)


def growing(rule, setting):
    """The residues on whose last pieces late grows."""
    x, y = setting.straight()
    return [residue for residue, row in enumerate(pieces(rule)) if x * row[-1][1] > y * rule.modulus]


class GreatestLateTest(Case):
    def test_drawn_rules(self):
        kinds = []
        for rule, setting, lates in pairs(3, 150):
            told = greatest_late(rule, setting)
            kinds.append(type(told))
            ends = growing(rule, setting)
            if ends:
                self.assertEqual(told, Endless(ends[0], pieces(rule)[ends[0]][-1][0]))
                self.assertEqual((type(told.residue), type(told.begin)), (int, int))
                self.grows(rule, setting, lates, ends)
            else:
                most = Ratio.greatest(lates)
                self.assertEqual(told, Bound(most, lates.index(most) + 1))
                self.assertEqual((type(told.late), type(told.rest)), (Ratio, int))
            self.assertEqual(greatest_late(setting=setting, rule=rule), told)
        self.assertTrue(kinds.count(Bound) > 20 and kinds.count(Endless) > 20)

    def grows(self, rule, setting, lates, ends):
        """On just these residues late at the last two rests, and far away, is more and more."""
        modulus = rule.modulus
        for residue in range(modulus):
            rest = (FAR // modulus - 2) * modulus + residue
            rise = lates[rest + modulus - 1] - lates[rest - 1]
            self.assertEqual(rise > 0, residue in ends)
            self.assertEqual(late_at(rule, setting, rest + modulus * 10 ** 40), lates[rest - 1] + rise * 10 ** 40)

    def test_far_rests(self):
        setting = Setting(Crew.even(4))
        for k in (10, 10 ** 9, GREAT):
            # Late is k less a quarter of the rest, least where the half first reaches k: at 2 k - 1.
            told = greatest_late(Divided(1, 1, 2) & Fixed(k), setting)
            self.assertEqual(told, Bound(k - Ratio(2 * k - 1, 4), 2 * k - 1))
        told = greatest_late(Divided(1, 1, 2) | Fixed(GREAT), Setting(Crew.even(2)))
        self.assertEqual(told, Bound(Ratio(GREAT, 2), GREAT))
        told = greatest_late(Divided(1, 1, 2) | Fixed(GREAT), setting)
        self.assertEqual(told, Endless(0, pieces(Divided(1, 1, 2) | Fixed(GREAT))[0][-1][0]))
        self.assertEqual(told.begin, GREAT + 1)

    def test_by_hand(self):
        # Costs 1 to 3, speeds 1 and 2: late is 3 c - (2 c + R) / 3.
        setting = Setting(Crew(a=1, b=2), 1, 3)
        self.assertEqual(greatest_late(Fixed(2), setting), Bound(Ratio(4), 2))
        self.assertEqual(greatest_late(Fixed(1), setting), Bound(Ratio(2), 1))
        self.assertEqual(greatest_late(Divided(1, 0, 7), setting), Bound(Ratio(2), 1))
        self.assertEqual(greatest_late(Divided(1, 0, 6), setting), Endless(0, 1))
        # At 7 q it is 2 q - 143, rounded up: 1 up to the quotient 72.
        self.assertEqual(greatest_late(Divided(2, -1000, 7), setting), Endless(0, 73))
        self.assertEqual(greatest_late(Divided.up(2), Setting(Crew.even(2))), Bound(Ratio(1, 2), 1))

    def test_one_worker_is_never_late(self):
        for rule in near_rules(4, 20):
            for setting in SETTINGS[:3]:
                self.assertEqual(greatest_late(rule, setting), Bound(Ratio(0), 1))

    def test_papers(self):
        self.is_paper(Bound, "late, rest")
        self.is_paper(Endless, "residue, begin", Denial)
        self.is_paper(Within, "table")
        self.is_paper(Beyond, "rest, late", Denial)


class WithinTest(Case):
    def limits(self, rule, setting, lates):
        some = [lates[0], lates[-1], Ratio.greatest(lates), lates[len(lates) // 2], setting.lowest]
        return some + [one + shift for one in some for shift in (1, Ratio(1, 7), -1, Ratio(-1, 10 ** 9))] + [0, 3, -2]

    def test_drawn_rules(self):
        kinds = []
        for rule, setting, lates in pairs(5, 90):
            endless = bool(growing(rule, setting))
            for limit in self.limits(rule, setting, lates):
                told = within(rule, setting, limit)
                kinds.append(type(told))
                beyond = first_of(lates, lambda late: late > limit)
                if beyond is not None:
                    self.assertEqual(told, Beyond(beyond, lates[beyond - 1]))
                    self.assertEqual((type(told.rest), type(told.late)), (int, Ratio))
                elif endless:
                    self.far_beyond(rule, setting, limit, told)
                else:
                    self.assertEqual(told, Within(pieces(rule)))
                self.is_same(bool(told), type(told) is Within)
                self.assertEqual(within(limit=limit, setting=setting, rule=rule), told)
        self.assertTrue(kinds.count(Within) > 100 and kinds.count(Beyond) > 100)

    def far_beyond(self, rule, setting, limit, told):
        self.assertIs(type(told), Beyond)
        self.assertTrue(told.rest > FAR and told.late > limit)
        self.assertEqual(told.late, late_at(rule, setting, told.rest))
        for back in range(1, rule.modulus + 1):
            self.assertTrue(late_at(rule, setting, told.rest - back) <= limit)

    def test_far_rests(self):
        four = Setting(Crew.even(4))
        half = Divided(1, 1, 2)
        for limit in (10 ** 6, 10 ** 29, Ratio(10 ** 30 + 1, 3)):
            told = within(half, four, limit)
            self.assertTrue(told.late == late_at(half, four, told.rest) > limit)
            for back in (1, 2, 3, 4):
                self.assertTrue(late_at(half, four, told.rest - back) <= limit)
        few = half & Fixed(GREAT)
        most = greatest_late(few, four)
        self.assertEqual(within(few, four, most.late), Within(pieces(few)))
        self.assertEqual(within(few, four, most.late - Ratio(1, 4)), Beyond(most.rest, most.late))

    def test_limits_of_both_kinds(self):
        two = Setting(Crew.even(2))
        for limit in (1, Ratio(1), Ratio(1, 2)):
            self.assertEqual(within(Divided.up(2), two, limit), Within(pieces(Divided.up(2))))
        for limit in (0, Ratio(0), Ratio(1, 3), -1):
            self.assertEqual(within(Divided.up(2), two, limit), Beyond(1, Ratio(1, 2)))

    def test_the_table_belongs_to_the_caller(self):
        told = within(Fixed(2), Setting(Crew.even(2)), 5)
        told.table.append(1)
        self.assertEqual(within(Fixed(2), Setting(Crew.even(2)), 5).table, [((1, 1, 0), (3, 0, 2))])


class FollowsTest(Case):
    def test_lists_of_a_rule(self):
        random = Random(9)
        for rule, setting, _ in pairs(6, 40):
            told = greatest_late(rule, setting)
            if told:
                for total in [told.rest] + [random.randrange(1, 400) for _ in range(4)]:
                    self.assertTrue(lateness(rule.list_for(total), setting) <= told.late)
                self.assertEqual(lateness(rule.list_for(told.rest), setting), told.late)

    def test_a_rule_within_gives_let_sizes(self):
        for rule, setting, lates in pairs(7, 30):
            limit = Ratio.greatest(lates[:50])
            if within(rule, setting, limit):
                for rest in range(1, 300):
                    self.assertTrue(rule(rest) <= setting.let(rest, 0, limit))

    def test_lesser_and_greater_ones(self):
        rules = [rule for rule in near_rules(8, 60) if len(rule.parts) <= 3][:24]
        for one, other in zip(rules[::2], rules[1::2]):
            for setting in SETTINGS[3::4]:
                both = [greatest_late(one, setting), greatest_late(other, setting)]
                if all(both):
                    most = Ratio.greatest([told.late for told in both])
                    self.assertTrue(greatest_late(one & other, setting).late <= most)
                    self.assertTrue(greatest_late(one | other, setting).late == most)
                elif any(both):
                    self.assertFalse(greatest_late(one | other, setting))

    def test_harder_settings(self):
        for rule, setting, _ in pairs(10, 40):
            others = [setting.with_costs(1, 60)]
            if len(setting.crew) < 8:
                others += [setting.with_crew(setting.crew + Crew(z=speed)) for speed in (1, 4, 60)]
            told = greatest_late(rule, setting)
            for other in others:
                harder = greatest_late(rule, other)
                self.assertTrue(not harder or (told and told.late <= harder.late))

    def test_speeds_so_many_times_as_great(self):
        for rule, _, _ in pairs(11, 30):
            for crew in (Crew.even(3), Crew(a=1, b=4)):
                for times in (2, 7):
                    one = greatest_late(rule, Setting(crew, 1, 2))
                    other = greatest_late(rule, Setting(times * crew, 1, 2))
                    expected = Bound(one.late * Ratio(1, times), one.rest) if one else one
                    self.assertEqual(other, expected)

    def test_the_part_of_equal_workers(self):
        for many in range(1, 9):
            for k in range(1, 25):
                told = greatest_late(Divided.up(k), Setting(Crew.even(many)))
                if k >= many:
                    self.assertEqual(told, Bound(1 - Ratio(1, many), 1))
                else:
                    self.assertIs(type(told), Endless)


class LookTest(Case):
    def test_what_is_told(self):
        for rule, setting, lates in pairs(12, 50):
            told = greatest_late(rule, setting)
            self.is_same(shows_bound(rule, setting, told), bool(told))
            self.is_same(shows_endless(value=told, setting=setting, rule=rule), not told)
            self.is_same(shows_bound(value=told, setting=setting, rule=rule), bool(told))
            for limit in (Ratio.greatest(lates), lates[0], 0):
                found = within(rule, setting, limit)
                self.is_same(shows_within(rule, setting, limit, found), bool(found))
                self.is_same(shows_beyond(rule, setting, limit, found), not found)
                self.is_same(shows_within(value=found, limit=limit, setting=setting, rule=rule), bool(found))
                self.is_same(shows_beyond(value=found, limit=limit, setting=setting, rule=rule), not found)

    def test_a_bound_at_any_rest(self):
        for rule, setting, lates in pairs(13, 40):
            told = greatest_late(rule, setting)
            most = told.late if told else Ratio.greatest(lates)
            for rest in range(1, 80):
                for late in (most, lates[rest - 1], most + 1, most - Ratio(1, 60)):
                    right = bool(told) and late == most and lates[rest - 1] == most
                    self.is_same(shows_bound(rule, setting, Bound(late, rest)), right)

    def test_an_endless_from_any_quotient(self):
        for rule, setting, _ in pairs(14, 50):
            ends = growing(rule, setting)
            rows = pieces(rule)
            for residue in range(-1, rule.modulus + 2):
                first = 1 if residue == 0 else 0
                for begin in range(-1, 30):
                    right = residue in ends and begin >= first
                    if right:
                        _, rise, start = rows[residue][-1]
                        right = all(rule(rule.modulus * q + residue) == rise * q + start
                                    for q in range(begin, max(begin, rows[residue][-1][0]) + 2))
                    self.is_same(shows_endless(rule, setting, Endless(residue, begin)), right)
                self.is_same(shows_endless(rule, setting, Endless(residue, 10 ** 45)), residue in ends)

    def test_an_endless_from_where_two_lines_meet(self):
        # At the quotient 5 the sizes 5 and q are equal, so the last line goes on from there, though its piece does not.
        rule, four = Divided(1, 0, 2) | Fixed(5), Setting(Crew.even(4))
        self.assertEqual(pieces(rule)[0], ((1, 2, 0), (3, 0, 5), (6, 1, 0)))
        told = [shows_endless(rule, four, Endless(0, begin)) for begin in (0, 1, 2, 3, 4, 5, 6, 7)]
        self.assertEqual(told, [False, False, False, False, False, True, True, True])

    def test_parted_pieces(self):
        for rule, setting, lates in pairs(15, 50):
            limit = Ratio.greatest(lates)
            found = within(rule, setting, limit)
            if found:
                table = [self.parted(row, 1 + rule.modulus % 3) for row in found.table]
                self.is_same(shows_within(rule, setting, limit, Within(table)), True)
                single = [self.parted(row, 1) for row in found.table]
                self.is_same(shows_within(rule, setting, limit, Within(single)), True)

    def parted(self, row, many):
        """The pieces in parts of so many quotients each, the last one in a few of them."""
        parts = []
        ends = [begin for begin, _, _ in row[1:]] + [row[-1][0] + 3 * many]
        for (begin, rise, start), end in zip(row, ends):
            parts += [(at, rise, start) for at in range(begin, end, many)]
        return tuple(parts)

    def test_tables_that_are_otherwise(self):
        count = 0
        for rule, setting, lates in pairs(16, 60):
            limit = Ratio.greatest(lates)
            found = within(rule, setting, limit)
            if found and count < 12:
                count += 1
                for table in self.others(found.table):
                    self.is_same(shows_within(rule, setting, limit, Within(table)), self.tells(rule, table))
        self.assertEqual(count, 12)

    def others(self, table):
        """Tables with one piece changed, left out, doubled or exchanged, one residue left out or doubled."""
        for residue, row in list(enumerate(table))[:6]:
            rows = [row[:at] + row[at + 1:] for at in range(len(row))]
            rows += [row[:at + 1] + row[at:] for at in range(len(row))]
            rows += [row[:at] + row[at + 1:at + 2] + row[at:at + 1] + row[at + 2:] for at in range(len(row) - 1)]
            for at, piece in enumerate(row):
                for part in range(3):
                    for shift in (-1, 1, 7):
                        changed = piece[:part] + (piece[part] + shift,) + piece[part + 1:]
                        rows.append(row[:at] + (changed,) + row[at + 1:])
            for changed in rows:
                yield table[:residue] + [changed] + table[residue + 1:]
            yield table[:residue] + table[residue + 1:]
            yield table[:residue] + table[residue:residue + 1] + table[residue:]
        for residue in range(min(5, len(table) - 1)):
            yield table[:residue] + [table[residue + 1], table[residue]] + table[residue + 2:]

    def tells(self, rule, table):
        """Whether a table tells the sizes, tried at all rests to some thousands and far away."""
        if len(table) != rule.modulus:
            return False
        for residue, row in enumerate(table):
            first = 1 if residue == 0 else 0
            begins = [piece[0] for piece in row]
            if not row or begins != sorted(set(begins)) or begins[0] != first:
                return False
            for q in [*range(first, FAR // rule.modulus + 20), 10 ** 40]:
                begin, rise, start = [piece for piece in row if piece[0] <= q][-1]
                if rise * q + start != rule(rule.modulus * q + residue):
                    return False
        return True

    def test_kinds_in_a_table(self):
        two, rule = Setting(Crew.even(2)), Divided(1, 1, 2)
        right = [((1, 1, 0),), ((0, 1, 1),)]
        self.is_same(shows_within(rule, two, 1, Within(right)), True)
        for table in (tuple(right), [[(1, 1, 0)], ((0, 1, 1),)], [([1, 1, 0],), ((0, 1, 1),)], [((1, 1, 0),), ((0, 1),)],
                      [((True, 1, 0),), ((0, 1, 1),)], [((1, True, 0),), ((0, 1, 1),)], [((1, 1, False),), ((0, 1, 1),)],
                      [((1, 1, 0),), ((False, 1, 1),)], [((1, Ratio(1), 0),), ((0, 1, 1),)], [((1, 1, 0, 0),), ((0, 1, 1),)],
                      [((1, 1, 0),), ()], [(), ((0, 1, 1),)], [], [((1, 1, 0),)], [((1, 1, 0),), None], {0: right[0]},
                      [((0, 1, 0),), ((0, 1, 1),)], [((1, 1, 0),), ((1, 1, 1),)], [((1, 1, 0),), (0, 1, 1)]):
            self.is_same(shows_within(rule, two, 1, Within(table)), False)
        for value in everything():
            self.is_same(shows_within(rule, two, 1, Within(value)), False)
            self.is_same(shows_within(rule, two, 1, Within([right[0], value])), False)
            self.is_same(shows_within(rule, two, 1, Within([right[0], (value,)])), False)
            if type(value) is not int:
                self.is_same(shows_within(rule, two, 1, Within([right[0], ((value, 1, 1),)])), False)
                self.is_same(shows_within(rule, two, 1, Within([right[0], ((0, value, 1),)])), False)
                self.is_same(shows_within(rule, two, 1, Within([right[0], ((0, 1, value),)])), False)

    def test_a_table_beyond_the_limit(self):
        two, rule = Setting(Crew.even(2)), Divided(1, 1, 2)
        for limit, right in ((1, True), (Ratio(1, 2), True), (Ratio(49, 100), False), (0, False)):
            self.is_same(shows_within(rule, two, limit, Within(pieces(rule))), right)
        self.is_same(shows_within(rule, Setting(Crew.even(3)), 10 ** 40, Within(pieces(rule))), False)

    def test_a_beyond_at_any_rest(self):
        for rule, setting, lates in pairs(17, 30):
            for limit in (lates[3], Ratio.greatest(lates) - Ratio(1, 2), -3):
                for rest in range(1, 60):
                    for late in (lates[rest - 1], lates[rest - 1] + 1, lates[rest]):
                        right = late == lates[rest - 1] and late > limit
                        self.is_same(shows_beyond(rule, setting, limit, Beyond(rest, late)), right)
        half, four = Divided(1, 1, 2), Setting(Crew.even(4))
        self.is_same(shows_beyond(half, four, 10 ** 39, Beyond(10 ** 40, late_at(half, four, 10 ** 40))), True)

    def test_values_of_all_kinds(self):
        two, rule = Setting(Crew.even(2)), Fixed(4)
        self.assertEqual(greatest_late(rule, two), Bound(Ratio(2), 4))
        self.assertEqual(within(rule, two, 1), Beyond(3, Ratio(3, 2)))
        four = Setting(Crew.even(4))
        self.assertEqual(greatest_late(Divided(1, 0, 1), four), Endless(0, 1))
        for value in everything():
            self.is_same(shows_bound(rule, two, Bound(value, 4)), False)
            self.is_same(shows_bound(rule, two, Bound(Ratio(2), value)), False)
            self.is_same(shows_endless(Divided(1, 0, 1), four, Endless(value, 1)), type(value) is int and value == 0)
            self.is_same(shows_endless(Divided(1, 0, 1), four, Endless(0, value)), type(value) is int and value >= 1)
            self.is_same(shows_beyond(rule, two, 1, Beyond(3, value)), False)
            if not (type(value) is int and value > 0):
                self.is_same(shows_beyond(rule, two, -10, Beyond(value, Ratio(3, 2))), False)
            for shows in (shows_bound, shows_endless):
                self.is_same(shows(Fixed(5), two, value), False)
            for shows in (shows_within, shows_beyond):
                self.is_same(shows(Fixed(5), two, 5, value), False)
        self.is_same(shows_bound(rule, two, Bound(Ratio(2), 4)), True)
        self.is_same(shows_bound(rule, two, Bound(2, 4)), False)
        self.is_same(shows_beyond(rule, two, 1, Beyond(4, Ratio(2))), True)
        self.is_same(shows_beyond(rule, two, 1, Beyond(4, 2)), False)
        one = Setting(Crew(a=1))
        self.is_same(shows_bound(rule, one, Bound(Ratio(0), 1)), True)
        self.is_same(shows_bound(rule, one, Bound(Ratio(0), True)), False)
        self.is_same(shows_beyond(rule, one, -1, Beyond(True, Ratio(0))), False)

    def test_papers_exchanged(self):
        two, rule = Setting(Crew.even(2)), Fixed(4)
        papers = [greatest_late(rule, two), within(rule, two, 1), within(rule, two, 5), Endless(0, 4)]
        for paper in papers:
            told = [shows_bound(rule, two, paper), shows_endless(rule, two, paper), shows_within(rule, two, 5, paper),
                    shows_beyond(rule, two, 1, paper)]
            self.assertEqual(told, [paper is papers[0], False, paper is papers[2], paper is papers[1]])


class WrongTest(Case):
    def calls(self):
        return [lambda rule, setting, limit: greatest_late(rule, setting), within,
                lambda rule, setting, limit: shows_bound(rule, setting, None),
                lambda rule, setting, limit: shows_endless(rule, setting, None),
                lambda rule, setting, limit: shows_within(rule, setting, limit, None),
                lambda rule, setting, limit: shows_beyond(rule, setting, limit, None)]

    def test_values_of_all_kinds(self):
        two = Setting(Crew.even(2))
        for call in self.calls():
            for value in but(Fixed, Divided, Lesser, Greater, By):
                self.raises(BadRule("rule"), call, value, None, None)
            self.raises(BadRule("function"), call, By(a_function), None, None)
            for value in but(Setting):
                self.raises(BadSetting("setting"), call, Fixed(1), value, None)
            for fee in (1, 10 ** 30):
                self.raises(BadSetting("fee"), call, Fixed(1), two.with_fee(fee), None)
        for call in (self.calls()[1], *self.calls()[4:]):
            for value in but(int, Ratio):
                self.raises(BadLimit(value), call, Fixed(1), two, value)
