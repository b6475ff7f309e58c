"""Cases, logs and papers as texts, there and back, and texts that cannot stand."""

from fractions import Fraction
from itertools import product
from random import Random

from latechunks import cases
from latechunks.chunks import Chunks
from latechunks.crews import Crew
from latechunks.errors import BadLog, BadPaper, BadSetting, BadText, BadWorld, TooMany
from latechunks.fewest import Fewest, Greatest, NoList, fewest
from latechunks.judged import Beyond, Bound, Endless, greatest_late, within
from latechunks.late import Latest, latest
from latechunks.logs import Log
from latechunks.plays import Play, Taking
from latechunks.ratios import Ratio
from latechunks.reading import read_case, read_log, read_paper
from latechunks.rules import Divided, Fixed
from latechunks.settings import Setting
from latechunks.texts import case_text, log_text, paper_text
from latechunks.worlds import World
from tests.helper import Case, but, everything
from tests.test_logs import drawn_plays

GREAT = 10 ** 30
LONG = 7 * 10 ** 5000 + 1
CREW = Crew(a=1, b=3)
SETTINGS = [Setting(Crew(a=1)), Setting(CREW, 1, 2, 3), Setting(Crew.even(8, 60), 60, 60, GREAT)]
LISTS = [None, Chunks(), Chunks(4, 4), Chunks(GREAT)]
RULES = [None, Fixed(2), (Fixed(2) | Divided(24, -1000, 24)) & Divided(0, 0, 1)]
WORLDS = [None, World({"a": 0}, (), ("a", "b")), World({"b": Ratio(5, 3), "a": LONG}, (2, LONG), ("b", "c", "a"))]
CASE = "setting a 1 b 3 / 1 2 / 3\nchunks 4 4\nrule ( fixed 2 | divided 24 -1000 24 )\nworld a 0 b 5/3 / 4 4 / b a"
LOG = "a 4 0 1/2\nb 7 1/2 8"


def all_cases():
    return [cases.Case(setting, *parts) for setting in SETTINGS for parts in product(LISTS, RULES, WORLDS)]


class CaseTextTest(Case):
    def test_there_and_back(self):
        for case in all_cases():
            text = case_text(case)
            rows = [f"setting {case.setting}"]
            rows += [f"chunks {case.chunks}"] if case.chunks is not None else []
            rows += [f"rule {case.cut_by}"] if case.cut_by is not None else []
            rows += [f"world {case.world}"] if case.world is not None else []
            self.is_same(text, "\n".join(rows))
            for told in (read_case(text), read_case(text=text)):
                self.assertIs(type(told), cases.Case)
                self.is_same(told, case)
                self.is_same(case_text(case=told), text)

    def test_no_case(self):
        for value in but(cases.Case):
            self.raises(BadSetting("case"), case_text, value)
            self.raises(BadSetting("case"), case_text, case=value)


class ReadCaseTest(Case):
    def test_what_is_no_string(self):
        for value in but(str):
            self.raises(BadText(0, 0), read_case, value)
            self.raises(BadText(0, 0), read_case, text=value)

    def wrong(self, text, row, word):
        self.raises(BadText(row, word), read_case, text)

    def test_rows(self):
        rows = CASE.split("\n")
        self.is_same(case_text(read_case(CASE)), CASE)
        for kept in product((True, False), repeat=3):
            text = "\n".join(rows[:1] + [row for row, keep in zip(rows[1:], kept) if keep])
            self.is_same(case_text(read_case(text)), text)
        self.wrong("", 0, 0)
        self.wrong("\n".join(rows[1:]), 0, 0)
        self.wrong(rows[1], 0, 0)
        for at in range(4):
            self.wrong("\n".join(rows[:at + 1] + rows[at:]), at + 1, 0)
        self.wrong("\n".join([rows[0], rows[2], rows[1], rows[3]]), 2, 0)
        self.wrong("\n".join([rows[0], rows[1], rows[3], rows[2]]), 3, 0)
        self.wrong("\n".join([rows[1], rows[0]]), 0, 0)
        self.wrong(CASE + "\n", 4, 0)
        self.wrong("\n" + CASE, 0, 0)
        self.wrong(rows[0] + "\n\n" + rows[1], 1, 0)
        self.wrong(CASE + "\nsetting a 1 / 1 1 / 0", 4, 0)
        self.wrong(rows[0] + "\nworld", 1, 1)
        self.wrong(rows[0] + "\nWorld a 0 / - / a", 1, 0)

    def test_each_word_left_out_or_put_in(self):
        rows = [row.split(" ") for row in CASE.split("\n")]
        for at, words in enumerate(rows):
            for place in range(len(words) + 1):
                # What cannot stand anywhere is told at its own place.
                other = [" ".join(row) for row in rows]
                other[at] = " ".join(words[:place] + ["?"] + words[place:])
                self.wrong("\n".join(other), at, place)
            other = [" ".join(row) for row in rows]
            for place in range(len(words)):
                other[at] = " ".join(words[:place])
                self.ends_early("\n".join(other), at, place)

    def ends_early(self, text, row, word):
        """A row that ends too early misses just the word at its end, if it cannot end there."""
        try:
            told = read_case(text)
        except BadText as error:
            self.is_same((error.line, error.word), (row, word))
        except BadWorld as error:
            # A world's order can end early: the class misses a name with a moment in it.
            self.is_same((error.part, row), ("order", 3))
        else:
            self.is_same(case_text(told), text)

    def test_words(self):
        for text, row, word in (
                ("setting", 0, 1), ("setting a", 0, 2), ("setting b 1 a 1 / 1 1 / 0", 0, 3), ("setting  a 1", 0, 1),
                ("setting a 61 / 1 1 / 0", 0, 2), ("setting a 1 / 2 1 / 0", 0, 5), ("setting a 1 / 1 1 / 0 ", 0, 8),
                ("setting a 1 / 1 1 / -1", 0, 7), ("setting a 1 / 1 1", 0, 6), ("Setting a 1 / 1 1 / 0", 0, 0),
                ("setting a 1 / 1 1 / 0\nchunks", 1, 1), ("setting a 1 / 1 1 / 0\nchunks 4 04", 1, 2),
                ("setting a 1 / 1 1 / 0\nchunks - 4", 1, 2), ("setting a 1 / 1 1 / 0\nchunks 4 /", 1, 2),
                ("setting a 1 / 1 1 / 0\nchunks 4 ; 4", 1, 2), ("setting a 1 / 1 1 / 0\nrule by", 1, 1),
                ("setting a 1 / 1 1 / 0\nrule fixed 1 2", 1, 3), ("setting a 1 / 1 1 / 0\nrule ( fixed 1 &", 1, 5),
                ("setting a 1 / 1 1 / 0\nworld a 0 / 1 /", 1, 6), ("setting a 1 / 1 1 / 0\nworld a -1 / 1 / a", 1, 2),
                ("setting a 1 / 1 1 / 0\nworld a 2/4 / 1 / a", 1, 2), ("setting a 1 / 1 1 / 0\nworld a 0 / 1 / a a", 1, 7),
                ("setting a 1 / 1 1 / 0\nchunks x\nrule y", 1, 1), ("setting a 1 / 1 x / 0\nchunks x", 0, 5)):
            self.wrong(text, row, word)

    def test_what_the_classes_raise(self):
        head = "setting a 1 / 1 1 / 0\n"
        long_list = "chunks" + " 1" * 5001
        residues = "rule ( ( divided 1 0 23 & divided 1 0 19 ) | divided 1 0 17 )"
        bad_world = "world a 0 b 1 / - / a"
        self.raises(TooMany("chunks", 5000), read_case, head + long_list)
        self.raises(TooMany("residues", 5000), read_case, head + residues)
        self.raises(BadWorld("order"), read_case, head + bad_world)
        self.raises(BadWorld("costs"), read_case, head + "world a 0 / " + "1 " * 5001 + "/ a")
        self.raises(TooMany("chunks", 5000), read_case, head + "\n".join([long_list, residues, bad_world]))
        self.raises(TooMany("residues", 5000), read_case, head + "\n".join([residues, bad_world]))
        self.raises(BadText(3, 9), read_case, head + "\n".join([long_list, residues, bad_world + " a"]))
        self.raises(BadText(2, 1), read_case, head + "\n".join([long_list, "rule"]))


class LogTextTest(Case):
    def test_there_and_back(self):
        for play in drawn_plays(31, 250):
            log = Log.of(play)
            text = log_text(log)
            rows = [f"{row.worker} {log.chunks[row.at]} {row.begun} {row.ended}" for row in log]
            self.is_same(text, "\n".join(rows) if rows else "-")
            for told in (read_log(text, log.setting), read_log(setting=log.setting, text=text)):
                self.assertIs(type(told), Log)
                self.is_same(told, log)
                self.is_same(log_text(log=told), text)

    def test_integers_and_strangers(self):
        log = Log(Chunks(GREAT, 1), SETTINGS[0], [Taking("zz", 0, 10 ** 49, 0), Taking("a", 1, Ratio(4, 6), 7)])
        text = f"zz {GREAT} {10 ** 49} 0\na 1 2/3 7"
        self.is_same((log_text(log), read_log(text, SETTINGS[0])), (text, log))
        self.is_same(log_text(read_log(f"a 1 {'7' * 5000} 1/{'3' * 4400}", SETTINGS[0])), f"a 1 {'7' * 5000} 1/{'3' * 4400}")

    def test_no_log(self):
        for value in but(Log):
            self.raises(BadLog("log"), log_text, value)
            self.raises(BadLog("log"), log_text, log=value)

    def test_no_setting(self):
        for value in but(Setting):
            for text in (LOG, "", value):
                self.raises(BadSetting("setting"), read_log, text, value)
        for value in but(str):
            self.raises(BadText(0, 0), read_log, value, SETTINGS[1])

    def test_words(self):
        self.is_same(len(read_log(LOG, SETTINGS[1])), 2)
        self.is_same(read_log("-", SETTINGS[1]), Log(Chunks(), SETTINGS[1], []))
        for text, row, word in (
                ("", 0, 0), ("- ", 0, 1), ("- a", 0, 1), ("-\n", 1, 0), ("-\n-", 1, 0), ("-\n" + LOG, 1, 0),
                (LOG + "\n-", 2, 0), (LOG + "\n", 2, 0), ("\n" + LOG, 0, 0), ("a", 0, 1), ("a 4", 0, 2), ("a 4 0", 0, 3),
                ("a 4 0 1 2", 0, 4), ("a 4 0 1 ", 0, 4), ("a 0 0 1", 0, 1), ("a 04 0 1", 0, 1), (f"a {GREAT + 1} 0 1", 0, 1),
                ("a 4 -1 1", 0, 2), ("a 4 0 -1/2", 0, 3), ("a 4 2/4 1", 0, 2), ("a 4 0 1/1", 0, 3), ("a 4 0 x", 0, 3),
                ("A 4 0 1", 0, 0), ("fee 4 0 1", 0, 0), ("abcdefghi 4 0 1", 0, 0), (" a 4 0 1", 0, 0), ("a  4 0 1", 0, 1),
                ("a 4 0 1\nb 4 0\nc", 1, 3), ("a 4 0 1\nb 4 +0 1", 1, 2), ("a 4 0 00", 0, 3), ("a - 0 1", 0, 1)):
            self.raises(BadText(row, word), read_log, text, SETTINGS[1])

    def test_what_the_classes_raise(self):
        rows = ["a 1 0 1"] * 5001
        self.is_same(len(read_log("\n".join(rows[1:]), SETTINGS[1])), 5000)
        self.raises(TooMany("chunks", 5000), read_log, "\n".join(rows), SETTINGS[1])
        self.raises(BadText(5001, 1), read_log, "\n".join(rows + ["a"]), SETTINGS[1])


def told_papers():
    """Papers that the package tells."""
    two = Setting(Crew.even(2))
    papers = [latest(Chunks(4, 4), two), latest(Chunks(2, 2), SETTINGS[1]), latest(Chunks.even(5000, 1), SETTINGS[2]),
              fewest(0, two, 0), fewest(GREAT, two, 1), fewest(10, SETTINGS[1], 1), fewest(GREAT, two, Ratio(1, 3)),
              greatest_late(Divided(1, 1, 2), two), greatest_late(Fixed(GREAT), Setting(Crew(a=1))),
              within(Divided(1, 1, 2), Setting(Crew.even(4)), 5), within(Fixed(3), two, -1),
              Bound(Ratio(-7, 3), LONG), Beyond(LONG, Ratio(-LONG, 2)), NoList((1,)), Latest(Ratio(-1, 2), 4999, WORLDS[2])]
    return papers


class PaperTextTest(Case):
    def test_there_and_back(self):
        kinds = set()
        for paper in told_papers():
            kinds.add(type(paper))
            text = paper_text(paper)
            self.assertNotIn("\n", text)
            for told in (read_paper(text), read_paper(text=text)):
                self.assertIs(type(told), type(paper))
                self.is_same(told, paper)
                self.is_same(paper_text(paper=told), text)
        self.assertEqual(kinds, {Latest, Fewest, NoList, Bound, Beyond})

    def test_rows(self):
        world = World({"a": 0, "b": 4}, (4, 4), ("a", "b"))
        self.is_same(paper_text(Latest(Ratio(2), 1, world)), "latest 2 1 a 0 b 4 / 4 4 / a b")
        self.is_same(paper_text(Fewest(Chunks())), "fewest -")
        self.is_same(paper_text(Fewest(Chunks(4, 3))), "fewest 4 3")
        self.is_same(paper_text(NoList((10, 6, 4))), "nolist 10 6 4")
        self.is_same(paper_text(Bound(Ratio(1, 2), 7)), "bound 1/2 7")
        self.is_same(paper_text(Beyond(7, Ratio(-1, 2))), "beyond 7 -1/2")

    def test_other_values(self):
        for value in everything():
            if not isinstance(value, (Latest, Fewest, NoList, Bound, Beyond)):
                self.raises(BadPaper("paper"), paper_text, value)
                self.raises(BadPaper("paper"), paper_text, paper=value)
        for value in (Endless(0, 1), Greatest(2, Chunks(2)), Chunks(2), True):
            self.raises(BadPaper("paper"), paper_text, value)

    def test_attributes_of_other_kinds(self):
        world = World({"a": 0}, (4,), ("a",))
        for value in everything() + [Fraction(1, 2), 5000, -1, [1], (1, 0), (1, True), (GREAT + 1,), (Ratio(1),)]:
            integer = type(value) is int
            for paper, right in (
                    (Latest(value, 0, world), type(value) is Ratio),
                    (Latest(Ratio(1), value, world), integer and 0 <= value < 5000),
                    (Latest(Ratio(1), 0, value), type(value) is World),
                    (Fewest(value), type(value) is Chunks),
                    (NoList(value), type(value) is tuple and len(value) > 0
                     and all(type(rest) is int and 1 <= rest <= GREAT for rest in value)),
                    (Bound(value, 1), type(value) is Ratio), (Bound(Ratio(1), value), integer and value >= 1),
                    (Beyond(value, Ratio(1)), integer and value >= 1), (Beyond(1, value), type(value) is Ratio)):
                if right:
                    self.is_same(read_paper(paper_text(paper)), paper)
                else:
                    self.raises(BadPaper("paper"), paper_text, paper)


class ReadPaperTest(Case):
    def test_what_is_no_string(self):
        for value in but(str):
            self.raises(BadText(0, 0), read_paper, value)

    def test_words(self):
        for text, row, word in (
                ("", 0, 0), ("latest", 0, 1), ("latest 1", 0, 2), ("latest 1 0", 0, 3), ("latest 1 5000 a 0 / - / a", 0, 2),
                ("latest 1 -1 a 0 / - / a", 0, 2), ("latest 2/4 0 a 0 / - / a", 0, 1), ("latest x 0 a 0 / - / a", 0, 1),
                ("latest 1 0 a 0 / - /", 0, 8), ("latest 1 0 a 0 / - / a a", 0, 9), ("latest 1 0 a 0 - / a", 0, 5),
                ("latest 1 0 a 0 / - / a\n", 1, 0), ("fewest", 0, 1), ("fewest -\nfewest -", 1, 0), ("fewest - 1", 0, 2),
                ("fewest 4 x", 0, 2), ("fewest 0", 0, 1), ("fewest 4 ", 0, 2), ("nolist", 0, 1), ("nolist -", 0, 1),
                ("nolist 4 0", 0, 2), (f"nolist {GREAT + 1}", 0, 1), ("nolist 4 2 x", 0, 3), ("nolist 4 ", 0, 2),
                ("nolist 4\n2", 1, 0), ("bound", 0, 1), ("bound 1/2", 0, 2), ("bound 1/2 0", 0, 2), ("bound 1/2 -1", 0, 2),
                ("bound 1/2 1 1", 0, 3), ("bound 0 01", 0, 2), ("bound -0 1", 0, 1), ("beyond", 0, 1), ("beyond 1", 0, 2),
                ("beyond 0 1", 0, 1), ("beyond 1/2 1", 0, 1), ("beyond 1 1/2 ", 0, 3), ("beyond 1 1/0", 0, 2),
                ("Latest 1 0 a 0 / - / a", 0, 0), ("endless 0 1", 0, 0), (" bound 1 1", 0, 0), ("bound  1 1", 0, 1),
                ("\nbound 1 1", 0, 0), ("bound 1 x\n", 0, 2), ("least 1 1", 0, 0)):
            self.raises(BadText(row, word), read_paper, text)

    def test_what_the_classes_raise(self):
        self.raises(TooMany("chunks", 5000), read_paper, "fewest" + " 1" * 5001)
        self.raises(BadText(1, 0), read_paper, "fewest" + " 1" * 5001 + "\n")
        self.raises(BadText(0, 5002), read_paper, "fewest" + " 1" * 5001 + " x")
        self.raises(BadWorld("order"), read_paper, "latest 1 0 b 0 / - / a")
        self.raises(BadText(1, 0), read_paper, "latest 1 0 b 0 / - / a\n")

    def test_drawn_worlds(self):
        random = Random(32)
        for play in drawn_plays(32, 60):
            paper = Latest(Ratio(random.randrange(-9, 9), random.randrange(1, 9)), random.randrange(5000), play.world)
            self.is_same(read_paper(paper_text(paper)), paper)
            self.is_same(Play(play.chunks, play.setting, read_paper(paper_text(paper)).world), play)
