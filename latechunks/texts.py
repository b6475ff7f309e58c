"""Cases, logs and papers as texts."""

from latechunks.cases import Case
from latechunks.checks import is_integer, is_size, is_within
from latechunks.chunks import Chunks
from latechunks.errors import BadLog, BadPaper, BadSetting
from latechunks.fewest import Fewest, NoList
from latechunks.judged import Beyond, Bound
from latechunks.late import Latest
from latechunks.logs import Log
from latechunks.ratios import Ratio
from latechunks.words import integer_text
from latechunks.worlds import World


def case_text(case):
    """The rows of a case: its setting, and what else it has."""
    if not isinstance(case, Case):
        raise BadSetting("case")
    parts = [("setting", case.setting), ("chunks", case.chunks), ("rule", case.cut_by), ("world", case.world)]
    return "\n".join([f"{word} {part}" for word, part in parts if part is not None])


def log_text(log):
    """A row for each taking of a log, `-` without any."""
    if not isinstance(log, Log):
        raise BadLog("log")
    rows = [f"{taking.worker} {size} {Ratio.of(taking.begun)} {Ratio.of(taking.ended)}"
            for size, taking in zip(log.chunks, log)]
    return "\n".join(rows) if rows else "-"


def paper_text(paper):
    """The row of a paper whose attributes are of the kinds that the package tells in them."""
    if isinstance(paper, Latest) and is_latest(paper):
        return f"latest {paper.late} {paper.at} {paper.world}"
    if isinstance(paper, Fewest) and isinstance(paper.chunks, Chunks):
        return f"fewest {paper.chunks}"
    if isinstance(paper, NoList) and are_left(paper.rests):
        return " ".join(["nolist", *[str(rest) for rest in paper.rests]])
    if isinstance(paper, Bound) and is_late_there(paper):
        return f"bound {paper.late} {integer_text(paper.rest)}"
    if isinstance(paper, Beyond) and is_late_there(paper):
        return f"beyond {integer_text(paper.rest)} {paper.late}"
    raise BadPaper("paper")


def is_latest(paper):
    """Whether the attributes of a Latest are of their kinds."""
    return isinstance(paper.late, Ratio) and is_within(paper.at, 0, Chunks.MOST - 1) and isinstance(paper.world, World)


def are_left(rests):
    """Whether any value is a tuple of at least one rest of a loop."""
    return isinstance(rests, tuple) and len(rests) > 0 and all([is_size(rest) for rest in rests])


def is_late_there(paper):
    """Whether the attributes of a Bound or a Beyond are of their kinds."""
    return isinstance(paper.late, Ratio) and is_integer(paper.rest) and paper.rest >= 1
