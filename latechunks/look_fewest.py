"""Looks at papers that tell the fewest chunks, the greatest totals and the least limits."""

from latechunks.bounds import bounds_of, greatest_let
from latechunks.checks import is_integer
from latechunks.chunks import Chunks
from latechunks.fewest import Fewest, Greatest, Least, NoList, check_asked, check_count, check_loop, grid
from latechunks.ratios import Ratio
from latechunks.settings import check_limit, check_setting


def shows_fewest(total, setting, limit, paper):
    """Whether any value is a right Fewest or a right NoList."""
    check_asked(total, setting, limit)
    if isinstance(paper, Fewest):
        return is_list_of(paper.chunks, total) and is_greedy(paper.chunks, setting, limit)
    if not isinstance(paper, NoList):
        return False
    return are_rests(paper.rests, total, setting, limit) and is_stopped(paper.rests, setting, limit)


def shows_greatest(count, setting, limit, paper):
    """Whether any value is a right Greatest."""
    check_count(count, "count")
    check_setting(setting)
    check_limit(limit)
    if not isinstance(paper, Greatest) or not is_integer(paper.total) or not is_list_of(paper.chunks, paper.total):
        return False
    return len(paper.chunks) == count and is_filled(paper.chunks, setting, limit)


def shows_least(total, setting, most, paper):
    """Whether any value is a right Least."""
    check_loop(total, setting)
    check_count(most, "most")
    if not isinstance(paper, Least) or not isinstance(paper.limit, Ratio) or not is_list_of(paper.chunks, total):
        return False
    steps = grid(setting)
    if (paper.limit * steps).under != 1 or len(paper.chunks) > most or not is_let(paper.chunks, setting, paper.limit):
        return False
    lesser = paper.limit - Ratio(1, steps)
    if not are_rests(paper.below, total, setting, lesser):
        return False
    return len(paper.below) == most + 1 or is_stopped(paper.below, setting, lesser)


def is_list_of(chunks, total):
    """Whether any value is a Chunks with this total."""
    return isinstance(chunks, Chunks) and chunks.total == total


def spots_of(chunks):
    """The triples of the rest, the place and the size of each chunk."""
    return list(zip(chunks.rests, range(len(chunks)), chunks.sizes))


def is_greedy(chunks, setting, limit):
    """Whether each chunk is the greatest one that is let at its place."""
    bounds = bounds_of(setting, limit)
    return all([greatest_let(bounds, rest, place) == size for rest, place, size in spots_of(chunks)])


def is_let(chunks, setting, limit):
    """Whether each chunk is let at its place."""
    return all([setting.late_of(rest, place, size) <= limit for rest, place, size in spots_of(chunks)])


def is_filled(chunks, setting, limit):
    """Whether each chunk is let at its place, and no greater one with the same rest behind it."""
    spots = spots_of(chunks)
    greater = [setting.late_of(rest + 1, place, size + 1) > limit for rest, place, size in spots]
    return all(greater) and is_let(chunks, setting, limit)


def are_rests(rests, total, setting, limit):
    """Whether any value is a tuple of rests from a total on, none of which a list within the limit can go below."""
    if not isinstance(rests, tuple) or len(rests) == 0 or not all([is_integer(rest) for rest in rests]):
        return False
    steps = list(zip(rests, rests[1:]))
    if rests[0] != total or rests[-1] < 1 or not all([rest >= left for rest, left in steps]):
        return False
    bounds = bounds_of(setting, limit)
    return all([greatest_let(bounds, rest, place) <= rest - left for place, (rest, left) in enumerate(steps)])


def is_stopped(rests, setting, limit):
    """Whether the rests of a NoList are no more than a list can have, and from the last one no chunk is let."""
    return len(rests) <= Chunks.MOST + 1 and setting.let(rests[-1], len(rests) - 1, limit) == 0
