"""Desks: each line beside the functions themselves, what is no line, and what can be taken back."""

from random import Random

from latechunks.chunks import Chunks
from latechunks.crews import Crew
from latechunks.desk import Desk
from latechunks.errors import BadLine, BadSetting, BadText, NoChunk, TooMany
from latechunks.fewest import Fewest, fewest, least_limit
from latechunks.judged import Bound, greatest_late, within
from latechunks.late import all_latenesses, latest, lateness, world_at
from latechunks.ratios import Ratio
from latechunks.rules import Fixed, Rule
from latechunks.settings import Setting
from tests.helper import Case, but, everything

GREAT = 10 ** 30
FIRST = "a 1 / 1 1 / 0 ; - ; fixed 1"
CREWS = ["a 1", "a 1 b 1", "a 1 b 3", "b 2 c 5 d 7", "a 60 b 60 c 60 d 60 e 60 f 60 g 60 h 60"]
LISTS = ["-", "4 4", "4 2 1 1", "1", f"{GREAT} 7", " ".join(["1"] * 5000)]
RULES = ["fixed 1", "divided 1 1 2", "( fixed 8 & divided 1 3 4 )", "( divided 1 0 3 | fixed 2 )", f"fixed {GREAT}",
         "( ( divided 1 0 23 & divided 1 0 19 ) | divided 1 0 17 )"]
COSTS = ["1 1", "1 2", "3 7", "60 60"]
FEES = ["0", "0", "0", "1", str(GREAT)]
LIMITS = ["0", "1", "1/2", "-1/3", "7", "100000", "9" * 4000]


class Held:
    """What a desk holds, and its answers by the functions themselves."""

    def __init__(self):
        self.setting, self.chunks, self.rule = Setting(Crew(a=1)), Chunks(), Fixed(1)

    def answer(self, line):
        try:
            return self.told(*line.split(" ", 1))
        except (BadSetting, NoChunk, TooMany) as error:
            return f"refused {type(error).__name__}"

    def told(self, word, rest=""):
        setting, chunks = self.setting, self.chunks
        words = rest.split(" ")
        if word == "crew":
            self.setting = setting.with_crew(Crew.read(rest))
        elif word == "fee":
            self.setting = setting.with_fee(int(rest))
        elif word == "costs":
            self.setting = setting.with_costs(*[int(one) for one in words])
        elif word == "chunks":
            self.chunks = Chunks.read(rest)
        elif word == "rule":
            self.rule = Rule.read(rest)
        elif word == "show":
            return f"{setting} ; {chunks} ; {self.rule}"
        elif word in ("late", "rows", "latest") and not chunks:
            return "none"
        elif word == "late":
            return str(lateness(chunks, setting))
        elif word == "rows":
            return " ".join(str(late) for late in all_latenesses(chunks, setting))
        elif word == "latest":
            return f"{latest(chunks, setting).late} at {latest(chunks, setting).at}"
        elif word == "world":
            return str(world_at(chunks, setting, int(rest)))
        elif word == "fewest":
            found = fewest(int(words[0]), setting, Ratio.read(words[1]))
            return str(found.chunks) if isinstance(found, Fewest) else " ".join(map(str, ("nolist", *found.rests)))
        elif word == "least":
            found = least_limit(int(words[0]), setting, *[int(one) for one in words[1:]])
            return f"{found.limit} : {found.chunks}"
        elif word == "cut":
            return str(self.rule.list_for(int(rest)))
        elif word == "bound":
            found = greatest_late(self.rule, setting)
            return f"{found.late} at {found.rest}" if isinstance(found, Bound) else f"endless {found.residue}"
        elif word == "within":
            found = within(self.rule, setting, Ratio.read(rest))
            return "within" if found else f"beyond {found.rest} {found.late}"
        return "ok"


def drawn_change(random):
    word = random.choice(("crew", "fee", "costs", "chunks", "rule", "chunks", "rule"))
    return word + " " + random.choice({"crew": CREWS, "fee": FEES, "costs": COSTS, "chunks": LISTS, "rule": RULES}[word])


def drawn_question(random):
    word = random.choice(("show", "late", "rows", "latest", "world", "fewest", "least", "cut", "bound", "within"))
    total = random.choice(("1", "7", "10", "64", "1000"))
    rest = {"world": random.choice(("0", "1", "3", "4999")), "fewest": f"{total} {random.choice(LIMITS)}",
            "least": random.choice((total, f"{total} 1", f"{total} 3", f"{total} 5000")),
            "cut": random.choice((total, "0", str(GREAT))), "within": random.choice(LIMITS)}.get(word)
    return word if rest is None else f"{word} {rest}"


class AnswersTest(Case):
    def test_beside_the_functions(self):
        random = Random(1)
        answers = set()
        for _ in range(60):
            desk, held = Desk(), Held()
            for _ in range(14):
                line = drawn_change(random) if random.randrange(2) else drawn_question(random)
                told = desk(line)
                self.is_same(told, held.answer(line))
                answers.add(" ".join([line.split(" ")[0], *told.split(" ")[:2 if told.startswith("refused") else 1]]))
        for answer in ("crew ok", "fee ok", "costs ok", "chunks ok", "rule ok", "rule refused TooMany", "late none",
                       "rows none", "latest none", "world refused NoChunk", "fewest nolist", "cut refused TooMany",
                       "bound refused BadSetting", "bound endless", "within within", "within beyond",
                       "within refused BadSetting"):
            self.assertIn(answer, answers)

    def test_at_first(self):
        desk = Desk()
        self.is_same([desk(line) for line in ("show", "late", "rows", "latest", "back", "bound", "cut 3")],
                     [FIRST, "none", "none", "none", "nothing", "0 at 1", "1 1 1"])
        self.is_same((len(desk), bool(desk), desk.changes()), (0, False, ()))

    def test_each_line(self):
        desk = Desk()
        for line, answer in (
                ("crew a 1 b 1", "ok"), ("chunks 4 4", "ok"), ("late", "2"), ("rows", "0 2"), ("latest", "2 at 1"),
                ("world 1", "a 0 b 4 / 4 4 / a b"), ("world 2", "refused NoChunk"), ("world 4999", "refused NoChunk"),
                ("fewest 10 1", "6 3 1"), ("fewest 0 0", "-"), ("fewest 10 1/3", "nolist 10 5 3 2 1"),
                ("fewest 5001 100000", "5001"), ("least 10", "1/2 : 5 3 1 1"), ("least 8 3", "1 : 5 2 1"),
                ("least 1 5000", "1/2 : 1"), ("cut 0", "-"), ("cut 3", "1 1 1"), ("cut 5001", "refused TooMany"),
                ("bound", "1/2 at 1"), ("within 1/2", "within"), ("within 0", "beyond 1 1/2"), ("rule fixed 3", "ok"),
                ("bound", "3/2 at 3"), ("rule divided 2 1 3", "ok"), ("bound", "endless 0"), ("fee 3", "ok"),
                ("show", "a 1 b 1 / 1 1 / 3 ; 4 4 ; divided 2 1 3"), ("bound", "refused BadSetting"),
                ("within 1", "refused BadSetting"), ("late", "13/2"), ("costs 2 3", "ok"), ("late", "21/2"),
                (f"fewest 6000 {GREAT}", "6000"), ("chunks -", "ok"), ("world 0", "refused NoChunk"), ("late", "none")):
            with self.subTest(line=line):
                self.is_same(desk(line), answer)
        self.is_same(desk(line="show"), "a 1 b 1 / 2 3 / 3 ; - ; divided 2 1 3")

    def test_refused_changes_nothing(self):
        desk = Desk()
        desk.run("crew a 1 b 1", "chunks 4 4", "rule fixed 3")
        shown, changes = desk("show"), desk.changes()
        for line in ("chunks" + " 1" * 5001, "rule " + RULES[-1], "world 2", "cut 99999", f"cut {GREAT}"):
            self.assertTrue(desk(line).startswith("refused "))
            self.is_same((desk("show"), desk.changes()), (shown, changes))


class WordsTest(Case):
    def setUp(self):
        self.desk = Desk()
        self.desk.run("crew a 1 b 1", "chunks 4 4")

    def tearDown(self):
        self.is_same((self.desk("show"), len(self.desk)), ("a 1 b 1 / 1 1 / 0 ; 4 4 ; fixed 1", 2))

    def wrong(self, line, word):
        self.raises(BadLine(word), self.desk, line)
        self.raises(BadLine(word), self.desk, line=line)
        self.raises(BadLine(word), self.desk.run, "fee 3", "back", "back", line, "late")

    def test_what_is_no_string(self):
        for value in but(str):
            self.wrong(value, 0)

    def test_a_word_left_out_put_in_exchanged(self):
        for line in ("crew a 1 b 3", "fee 7", "costs 1 2", "chunks 4 2", "rule ( fixed 2 & divided 1 0 2 )", "show", "late",
                     "rows", "latest", "world 1", "fewest 10 1/2", "least 10 5", "cut 10", "bound", "within 1/2", "back"):
            words = line.split(" ")
            for at in range(len(words) + 1):
                self.wrong(" ".join(words[:at] + ["?"] + words[at:]), at)
                self.wrong(" ".join(words[:at] + [""] + words[at:]), at)
            for at in range(len(words)):
                self.wrong(" ".join(words[:at] + ["?"] + words[at + 1:]), at)
            self.wrong(line + " /", len(words))
            self.wrong(line.capitalize(), 0)
            self.wrong(" " + line, 0)
            self.wrong(line + "\n", 0 if len(words) == 1 else len(words) - 1)

    def test_words_that_are_missing(self):
        for line, word in (("", 0), ("crew", 1), ("crew a", 2), ("crew a 1 b", 4), ("fee", 1), ("costs", 1), ("costs 1", 2),
                           ("chunks", 1), ("rule", 1), ("rule fixed", 2), ("rule ( fixed 1 &", 5), ("rule ( fixed 1", 4),
                           ("rule divided 1 0", 4), ("world", 1), ("fewest", 1), ("fewest 1", 2), ("least", 1), ("cut", 1),
                           ("within", 1)):
            self.wrong(line, word)

    def test_numbers_beside_their_bounds(self):
        for line, word in (("crew a 0", 2), ("crew a 61", 2), ("crew b 1 a 1", 3), ("crew a 1 a 1", 3),
                           ("crew a 1 b 1 c 1 d 1 e 1 f 1 g 1 h 1 i 1", 17), ("fee -1", 1), (f"fee {GREAT + 1}", 1),
                           ("fee 00", 1), ("costs 0 1", 1), ("costs 2 1", 2), ("costs 61 61", 1), ("costs 1 61", 2),
                           ("chunks 0", 1), (f"chunks {GREAT + 1}", 1), ("chunks 4 04", 2), ("chunks - 4", 2), ("chunks 4 -", 2),
                           ("chunks 4 / 4", 2), ("chunks 4 ; 4", 2), ("rule fixed 0", 2), ("rule divided 25 0 1", 2),
                           ("rule divided 1 1001 1", 3), ("rule divided 1 0 25", 4), ("rule by", 1), ("rule fixed 1 fixed 1", 3),
                           ("world -1", 1), ("world 5000", 1), ("world 01", 1), ("fewest -1 1", 1), (f"fewest {GREAT + 1} 1", 1),
                           ("fewest 1 2/4", 2), ("fewest 1 1/1", 2), ("fewest 1 -0", 2), ("fewest 1 1.5", 2),
                           ("fewest 1 " + "9" * 4001, 2), ("fewest 1 1/" + "7" * 4001, 2), ("least 0", 1), ("least 1 0", 2),
                           ("least 1 5001", 2), ("least 1 1 1", 3), ("least 1 1/2", 2), (f"least {GREAT + 1}", 1),
                           ("cut -1", 1), (f"cut {GREAT + 1}", 1), ("cut 1/2", 1), ("cut 1 1", 2), ("within 1/0", 1),
                           ("within 1 1", 2), ("late 5", 1), ("back 1", 1), ("show 1", 1), ("bound 1", 1), ("rows -", 1),
                           ("latest 0", 1), ("LATE", 0), ("fees 1", 0), ("refused NoChunk", 0), ("nothing", 0)):
            self.wrong(line, word)

    def test_any_values(self):
        for value in everything():
            self.raises(BadLine(1 if value == "fee" else 0), self.desk, value)


class BackTest(Case):
    def test_changes(self):
        random = Random(2)
        for _ in range(40):
            desk, lines, shown = Desk(), [], [FIRST]
            for _ in range(12):
                line = drawn_change(random)
                if desk(line) == "ok":
                    lines.append(line)
                    shown.append(desk("show"))
                desk(drawn_question(random))
                if random.randrange(4) == 0:
                    self.is_same(desk("back"), "ok" if lines else "nothing")
                    lines = lines[:-1]
                    shown = shown[:max(1, len(lines) + 1)]
                self.is_same((desk.changes(), len(desk), bool(desk)), (tuple(lines), len(lines), bool(lines)))
                self.is_same(desk("show"), shown[-1])
            self.is_same(Desk.read("\n".join(lines))("show") if lines else FIRST, shown[-1])
            while lines:
                self.is_same((desk("show"), desk.changes()[-1]), (shown.pop(), lines.pop()))
                self.is_same(desk("back"), "ok")
            self.is_same((desk("back"), desk("show")), ("nothing", FIRST))

    def test_a_change_that_changes_nothing(self):
        desk = Desk()
        self.is_same(desk.run("crew a 1", "fee 0", "costs 1 1", "chunks -", "rule fixed 1", "show"), ("ok",) * 5 + (FIRST,))
        self.is_same((len(desk), bool(desk)), (5, True))
        self.is_same(desk.run(*["back"] * 6), ("ok",) * 5 + ("nothing",))

    def test_no_change(self):
        desk = Desk()
        desk("chunks 4 4")
        for line in ("show", "late", "rows", "latest", "world 0", "world 9", "fewest 9 1", "least 9", "cut 9", "bound",
                     "within 0"):
            desk(line)
            self.is_same(desk.changes(), ("chunks 4 4",))


class RunTest(Case):
    def test_answers(self):
        desk = Desk()
        self.is_same(desk.run(), ())
        self.is_same(desk.run("chunks 4 4", "late", "world 7", "back", "back", "late"),
                     ("ok", "0", "refused NoChunk", "ok", "nothing", "none"))

    def test_a_line_that_is_none(self):
        desk = Desk()
        desk.run("chunks 4 4", "fee 3", "rule fixed 2")
        changes, shown = desk.changes(), desk("show")
        for line, word in (("late 5", 1), ("", 0), (None, 0), ("fee x", 1), (7, 0)):
            for at in range(5):
                lines = ["fee 9", "back", "back", "chunks 1", "back", "back", "back"]
                lines.insert(at, line)
                self.raises(BadLine(word), desk.run, *lines)
                self.is_same((desk.changes(), desk("show")), (changes, shown))
        desk("back")
        self.is_same(desk.changes(), changes[:2])


class TrialTest(Case):
    def setUp(self):
        self.desk = Desk()
        self.desk.run("crew a 1 b 1", "chunks 4 4", "rule fixed 3")
        self.shown, self.changes = self.desk("show"), self.desk.changes()

    def tearDown(self):
        self.is_same((self.desk("show"), self.desk.changes()), (self.shown, self.changes))

    def test_blocks(self):
        with self.desk.trial() as same:
            self.assertIs(same, self.desk)
            self.is_same(same.run("fee 1", "back", "back", "back"), ("ok",) * 4)
            with same.trial() as again:
                again.run("back", "back", "chunks 9")
                self.is_same(again.changes(), ("chunks 9",))
            self.is_same(same.changes(), self.changes[:1])

    def test_errors(self):
        for error in (ValueError("x"), KeyError(1), BadLine(3), TooMany("x", 1)):
            with self.assertRaises(type(error)) as caught:
                with self.desk.trial() as same:
                    with same.trial():
                        same.run("fee 1", "back", "back")
                        raise error
            self.assertIs(caught.exception, error)
            self.tearDown()

    def test_one_block_twice(self):
        block = self.desk.trial()
        for _ in range(2):
            with block:
                self.desk("back")
                with block:
                    self.desk("back")
                self.is_same(len(self.desk), 2)
            self.tearDown()

    def test_tried(self):
        for value in everything():
            self.assertIs(self.desk.tried(lambda same: [same("back"), same("fee 9"), value][-1]), value)
        self.is_same(self.desk.tried(work=lambda same: same is self.desk), True)
        self.is_same(self.desk.tried(lambda same: same.tried(lambda again: again("crew z 60")) + same("late")), "ok2")
        self.raises(BadLine(0), self.desk.tried, lambda same: same.run("back", "x"))
        with self.assertRaises(ZeroDivisionError):
            self.desk.tried(lambda same: same("back") and 1 // 0)


class ReadTest(Case):
    def test_lines(self):
        random = Random(3)
        for many in (1, 2, 9, 30):
            lines = [line for line in (drawn_change(random) for _ in range(4 * many)) if line != "rule " + RULES[-1]][:many]
            for desk in (Desk.read("\n".join(lines)), Desk.read(text="\n".join(lines))):
                self.assertIs(type(desk), Desk)
                self.is_same(desk.changes(), tuple(lines))
                other = Desk()
                other.run(*lines)
                self.is_same(desk("show"), other("show"))

    def test_wrong_lines(self):
        for text, row, word in (
                ("", 0, 0), ("crew a 1 b 1\nlate", 1, 0), ("show", 0, 0), ("back", 0, 0), ("fee 1\nback", 1, 0),
                ("fee 1\n", 1, 0), ("\nfee 1", 0, 0), ("fee 1\nfee x", 1, 1), ("fee 1\ncosts 2 1", 1, 2),
                ("fee 1\nfee 2 3\nfee x", 1, 2), ("fee 1\nrule " + RULES[-1], 1, 0), ("chunks" + " 1" * 5001, 0, 0),
                ("fee 1\nfee 2\nworld 0", 2, 0), ("fee 1\nwithin x", 1, 1), ("fee 1\nlate 5", 1, 1), ("fee 1 \nfee 2", 0, 2),
                ("Fee 1", 0, 0), ("fee 1\n\nfee 2", 1, 0), ("fee 1\nbound", 1, 0)):
            self.raises(BadText(row, word), Desk.read, text)
            self.raises(BadText(row, word), Desk.read, text=text)
        for value in but(str):
            self.raises(BadText(0, 0), Desk.read, value)

    def test_the_first_row_is_told(self):
        self.raises(BadText(0, 0), Desk.read, "late\nfee x")
        self.raises(BadText(0, 1), Desk.read, "fee x\nlate")
