"""The lines of a desk: what their words tell, what they change, and what they answer."""

from latechunks.checks import GREATEST_SIZE
from latechunks.chunks import Chunks, read_sizes
from latechunks.crews import Crew, read_speeds
from latechunks.fewest import Fewest, fewest, least_limit
from latechunks.judged import Bound, Within, greatest_late, within
from latechunks.late import all_latenesses, latest, lateness, world_at
from latechunks.ratios import worth_of
from latechunks.rules import rule_of
from latechunks.rulewords import read_rule
from latechunks.settings import read_costs, read_fee
from latechunks.words import Reader


class DeskState:
    """What a desk holds: a setting, a list of chunks and a rule. It never changes itself."""

    def __init__(self, setting, chunks, cut_by):
        self.setting = setting
        self.chunks = chunks
        self.cut_by = cut_by


def parsed(line):
    """The pair of the first word of a line and what the others tell."""
    reader = Reader(line)
    word = reader.at_hand()
    reader.take(word if word in READERS else None)
    read = READERS[word]
    told = read(reader)
    reader.finish()
    return word, told


def is_change(word):
    """Whether lines that begin with a word change what a desk holds."""
    return word in CHANGES


def changed(state, word, told):
    """What a desk holds behind a change."""
    change = CHANGES[word]
    return change(state, told)


def answered(state, word, told):
    """What a desk answers to a line that changes nothing."""
    answer = ANSWERS[word]
    return answer(state, told)


def read_nothing(reader):
    """A line of one word."""
    return None


def crew_words(reader):
    """The speeds of a crew."""
    return read_speeds(reader)


def fee_words(reader):
    """A fee."""
    return read_fee(reader)


def costs_words(reader):
    """Two costs of items."""
    return read_costs(reader)


def chunks_words(reader):
    """The sizes of a list."""
    return read_sizes(reader)


def rule_words(reader):
    """The parts and signs of a rule."""
    return read_rule(reader)


def place_words(reader):
    """A place of a chunk."""
    return reader.integer(0, Chunks.MOST - 1)


def total_words(reader):
    """A number of items."""
    return reader.integer(0, GREATEST_SIZE)


def limit_words(reader):
    """A limit."""
    return reader.take(worth_of(reader.at_hand()))


def fewest_words(reader):
    """A number of items and a limit."""
    total = total_words(reader)
    return total, limit_words(reader)


def least_words(reader):
    """A number of items and, if it is told, a number of chunks."""
    total = reader.integer(1, GREATEST_SIZE)
    return total, Chunks.MOST if reader.at_hand() is None else reader.integer(1, Chunks.MOST)


def with_crew(state, told):
    """Another crew."""
    return DeskState(state.setting.with_crew(Crew.of(told)), state.chunks, state.cut_by)


def with_fee(state, told):
    """Another fee."""
    return DeskState(state.setting.with_fee(told), state.chunks, state.cut_by)


def with_costs(state, told):
    """Other costs of items."""
    least, most = told
    return DeskState(state.setting.with_costs(least, most), state.chunks, state.cut_by)


def with_chunks(state, told):
    """Another list."""
    return DeskState(state.setting, Chunks.of(told), state.cut_by)


def with_rule(state, told):
    """Another rule."""
    return DeskState(state.setting, state.chunks, rule_of(told))


def show(state, told):
    """All that the desk holds."""
    return f"{state.setting} ; {state.chunks} ; {state.cut_by}"


def show_late(state, told):
    """The greatest lateness of the list."""
    late = lateness(state.chunks, state.setting)
    return "none" if late is None else str(late)


def show_rows(state, told):
    """Late of all chunks of the list."""
    lates = all_latenesses(state.chunks, state.setting)
    return " ".join([str(late) for late in lates]) if lates else "none"


def show_latest(state, told):
    """The greatest lateness of the list, and the place that has it."""
    found = latest(state.chunks, state.setting)
    return "none" if found is None else f"{found.late} at {found.at}"


def show_world(state, told):
    """The worst world at a place."""
    return str(world_at(state.chunks, state.setting, told))


def show_fewest(state, told):
    """The fewest chunks within a limit."""
    total, limit = told
    found = fewest(total, state.setting, limit)
    if isinstance(found, Fewest):
        return str(found.chunks)
    return " ".join(["nolist", *[str(rest) for rest in found.rests]])


def show_least(state, told):
    """The least limit for at most so many chunks, and the chunks within it."""
    total, most = told
    found = least_limit(total, state.setting, most)
    return f"{found.limit} : {found.chunks}"


def show_cut(state, told):
    """The list of the rule."""
    return str(state.cut_by.list_for(told))


def show_bound(state, told):
    """How late the lists of the rule can be."""
    found = greatest_late(state.cut_by, state.setting)
    return f"{found.late} at {found.rest}" if isinstance(found, Bound) else f"endless {found.residue}"


def show_within(state, told):
    """Whether the lists of the rule are within a limit."""
    found = within(state.cut_by, state.setting, told)
    return "within" if isinstance(found, Within) else f"beyond {found.rest} {found.late}"


READERS = {"crew": crew_words, "fee": fee_words, "costs": costs_words, "chunks": chunks_words, "rule": rule_words,
           "show": read_nothing, "late": read_nothing, "rows": read_nothing, "latest": read_nothing,
           "world": place_words, "fewest": fewest_words, "least": least_words, "cut": total_words,
           "bound": read_nothing, "within": limit_words, "back": read_nothing}
CHANGES = {"crew": with_crew, "fee": with_fee, "costs": with_costs, "chunks": with_chunks, "rule": with_rule}
ANSWERS = {"show": show, "late": show_late, "rows": show_rows, "latest": show_latest, "world": show_world,
           "fewest": show_fewest, "least": show_least, "cut": show_cut, "bound": show_bound, "within": show_within}
