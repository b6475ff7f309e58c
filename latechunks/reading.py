"""Cases, logs and papers read back from their texts."""

from latechunks.cases import Case
from latechunks.checks import GREATEST_SIZE, is_name
from latechunks.chunks import Chunks, read_sizes
from latechunks.crews import Crew
from latechunks.errors import BadText
from latechunks.fewest import Fewest, NoList
from latechunks.judged import Beyond, Bound
from latechunks.late import Latest
from latechunks.logs import Log
from latechunks.plays import Taking
from latechunks.ratios import ratio_of
from latechunks.rules import rule_of
from latechunks.rulewords import read_rule
from latechunks.settings import Setting, check_setting, read_setting
from latechunks.words import Reader, integer_of
from latechunks.worlds import World, moment_of, read_world

CASE_WORDS = ("setting", "chunks", "rule", "world")


def read_case(text):
    """The case that has just this text."""
    told = {}
    left = ["setting"]
    for reader in readers_of(text):
        word = reader.at_hand()
        reader.take(word if word in left else None)
        told[word] = read_part(word, reader)
        reader.finish()
        left = list(CASE_WORDS[CASE_WORDS.index(word) + 1:])
    # What the words tell is made behind the look at all of them.
    speeds, least, most, fee = told["setting"]
    setting = Setting(Crew.of(speeds), least, most, fee)
    chunks = Chunks.of(told["chunks"]) if "chunks" in told else None
    cut_by = rule_of(told["rule"]) if "rule" in told else None
    return Case(setting, chunks, cut_by, world_of(told["world"]) if "world" in told else None)


def read_log(text, setting):
    """The log of a setting that has just this text."""
    check_setting(setting)
    readers = readers_of(text)
    if readers[0].at_hand() == "-":
        readers[0].expect("-")
        finish(readers)
        return Log(Chunks(), setting, ())
    rows = [read_taking(reader) for reader in readers]
    chunks = Chunks.of([size for _, size, _, _ in rows])
    takings = [Taking(worker, at, begun, ended) for at, (worker, _, begun, ended) in enumerate(rows)]
    return Log(chunks, setting, takings)


def read_paper(text):
    """The paper that has just this text."""
    readers = readers_of(text)
    reader = readers[0]
    word = reader.at_hand()
    reader.take(word if word in PAPER_WORDS else None)
    read = PAPER_WORDS[word]
    told = read(reader)
    finish(readers)
    make = PAPER_MAKERS[word]
    return make(told)


def readers_of(text):
    """The Readers of the rows of a text."""
    if not isinstance(text, str):
        raise BadText(0, 0)
    return [Reader(row, at) for at, row in enumerate(text.split("\n"))]


def finish(readers):
    """Nothing is left of the first row, and there is no other one."""
    readers[0].finish()
    if len(readers) > 1:
        readers[1].refuse()


def read_part(word, reader):
    """What the words of a part of a case tell."""
    if word == "setting":
        return read_setting(reader)
    if word == "chunks":
        return read_sizes(reader)
    return read_rule(reader) if word == "rule" else read_world(reader)


def read_taking(reader):
    """What a row of a log tells: the worker, the size, and the moments at which it begins and ends."""
    name = reader.at_hand()
    worker = reader.take(name if is_name(name) else None)
    size = reader.integer(1, GREATEST_SIZE)
    begun = reader.take(moment_of(reader.at_hand()))
    ended = reader.take(moment_of(reader.at_hand()))
    reader.finish()
    return worker, size, begun, ended


def world_of(told):
    """The World of what its words told."""
    ready, costs, order = told
    return World(ready, costs, order)


def read_late(reader):
    """A lateness."""
    return reader.take(ratio_of(reader.at_hand()))


def read_rest(reader):
    """What is left of a loop, of any length."""
    rest = integer_of(reader.at_hand())
    return reader.take(None if rest is None or rest < 1 else rest)


def read_latest(reader):
    """What the words of a Latest tell."""
    late = read_late(reader)
    return late, reader.integer(0, Chunks.MOST - 1), read_world(reader)


def read_fewest(reader):
    """What the words of a Fewest tell."""
    return read_sizes(reader)


def read_nolist(reader):
    """What the words of a NoList tell."""
    rests = []
    while not rests or reader.at_hand() is not None:
        rests.append(reader.integer(1, GREATEST_SIZE))
    return rests


def read_bound(reader):
    """What the words of a Bound tell."""
    late = read_late(reader)
    return late, read_rest(reader)


def read_beyond(reader):
    """What the words of a Beyond tell."""
    rest = read_rest(reader)
    return rest, read_late(reader)


def make_latest(told):
    """The Latest of what its words told."""
    late, at, world = told
    return Latest(late, at, world_of(world))


def make_fewest(told):
    """The Fewest of what its words told."""
    return Fewest(Chunks.of(told))


def make_nolist(told):
    """The NoList of what its words told."""
    return NoList(tuple(told))


def make_bound(told):
    """The Bound of what its words told."""
    late, rest = told
    return Bound(late, rest)


def make_beyond(told):
    """The Beyond of what its words told."""
    rest, late = told
    return Beyond(rest, late)


PAPER_WORDS = {"latest": read_latest, "fewest": read_fewest, "nolist": read_nolist, "bound": read_bound,
               "beyond": read_beyond}
# Papers are made behind the look at all words: what their parts are made of can be refused, too.
PAPER_MAKERS = {"latest": make_latest, "fewest": make_fewest, "nolist": make_nolist, "bound": make_bound,
                "beyond": make_beyond}
