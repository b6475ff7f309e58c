"""The fewest chunks within a limit, and the least limit for so many chunks."""

from math import lcm

from latechunks.bounds import bounds_of, greatest_ahead, greatest_let
from latechunks.checks import GREATEST_SIZE, is_size, is_within
from latechunks.chunks import Chunks, check_many, check_total
from latechunks.errors import BadChunks, BadTotal, TooMany, TooStrict
from latechunks.papers import Denial, Paper
from latechunks.ratios import Ratio
from latechunks.settings import check_limit, check_setting


class Fewest(Paper):
    """The Chunks of the greedy list, which leaves nothing."""

    def __init__(self, chunks):
        self.chunks = chunks

    def __eq__(self, other):
        return isinstance(other, Fewest) and self.chunks == other.chunks


class NoList(Denial):
    """No list is within the limit: the rests of the greedy list, from the last one of which no chunk is let."""

    def __init__(self, rests):
        self.rests = rests

    def __eq__(self, other):
        return isinstance(other, NoList) and self.rests == other.rests


class Greatest(Paper):
    """The greatest total of a list of so many chunks within a limit, and such a list."""

    def __init__(self, total, chunks):
        self.total = total
        self.chunks = chunks

    def __eq__(self, other):
        return isinstance(other, Greatest) and self.total == other.total and self.chunks == other.chunks


class Least(Paper):
    """The least limit for at most so many chunks, the fewest chunks within it, and rests below it that show this."""

    def __init__(self, limit, chunks, below):
        self.limit = limit
        self.chunks = chunks
        self.below = below

    def __eq__(self, other):
        return (isinstance(other, Least) and self.limit == other.limit and self.chunks == other.chunks
                and self.below == other.below)


def fewest(total, setting, limit):
    """The Fewest of a total within a limit, the NoList if no list is within it."""
    check_asked(total, setting, limit)
    rests = greedy_rests(total, setting, limit, Chunks.MOST)
    if rests[-1] == 0:
        return Fewest(chunks_between(rests))
    # With a rest behind as many chunks as a list can have there are more rests than that.
    check_many(len(rests))
    return NoList(tuple(rests))


def count_fewest(total, setting, limit):
    """The number of the chunks of fewest, None if there is no list."""
    found = fewest(total, setting, limit)
    return len(found.chunks) if isinstance(found, Fewest) else None


def chunks_within(total, setting, limit):
    """The Chunks of fewest."""
    found = fewest(total, setting, limit)
    if not isinstance(found, Fewest):
        raise TooStrict(limit)
    return found.chunks


def greatest_total(count, setting, limit):
    """The Greatest of just so many chunks within a limit, None if there is no list of them."""
    check_count(count, "count")
    check_setting(setting)
    check_limit(limit)
    bounds = bounds_of(setting, limit)
    sizes = []
    total = 0
    while len(sizes) < count:
        size = greatest_ahead(bounds, total, count - len(sizes) - 1)
        if size == 0:
            return None
        # With more behind them the chunks ahead of it are let all the more, so the total can only grow.
        total = total + size
        if total > GREATEST_SIZE:
            raise TooMany("total", GREATEST_SIZE)
        sizes.append(size)
    return Greatest(total, Chunks.of(sizes[::-1]))


def grid(setting):
    """The integer such that each late in a setting is a multiple of 1 / grid."""
    check_setting(setting)
    crew = setting.crew
    return lcm(crew.least_speed, crew.greatest_speed, crew.speed)


def least_limit(total, setting, most=5000):
    """The Least of a total for at most so many chunks."""
    check_loop(total, setting)
    check_count(most, "most")
    limit = limit_for(total, setting, most, setting.late_of(total, 0, total))
    rests = greedy_rests(total, setting, limit, most)
    below = greedy_rests(total, setting, limit - Ratio(1, grid(setting)), most)
    return Least(limit, chunks_between(rests), tuple(below))


def staircase(total, setting):
    """The pairs of a count and the least limit for at most so many chunks, where it is less than for fewer ones."""
    check_loop(total, setting)
    limit = setting.late_of(total, 0, total)
    rests = [total, 0]
    while rests[-1] == 0:
        count = len(rests) - 1
        limit = limit_for(total, setting, count, limit)
        yield count, limit
        rests = greedy_rests(total, setting, limit - Ratio(1, grid(setting)), Chunks.MOST)


def greedy_rests(total, setting, limit, most):
    """What is left ahead of the chunks of the greedy list, and behind the last one: at most so many are taken."""
    bounds = bounds_of(setting, limit)
    rests = [total]
    size = None
    while rests[-1] > 0 and size != 0 and len(rests) <= most:
        size = greatest_let(bounds, rests[-1], len(rests) - 1)
        if size > 0:
            rests.append(rests[-1] - size)
    return rests


def chunks_between(rests):
    """The Chunks that leave these rests."""
    return Chunks.of([rest - left for rest, left in zip(rests, rests[1:])])


def limit_for(total, setting, most, limit):
    """The least limit within which there is a list of at most so many chunks; there is one within the given limit."""
    steps = grid(setting)
    # No limit below the lowest lateness is enough.
    low = (setting.lowest * steps).floor() - 1
    high = (limit * steps).floor()
    while high - low > 1:
        middle = (low + high) // 2
        if greedy_rests(total, setting, Ratio(middle, steps), most)[-1] == 0:
            high = middle
        else:
            low = middle
    return Ratio(high, steps)


def check_asked(total, setting, limit):
    """It is asked about a total in a setting within a limit."""
    check_total(total)
    check_setting(setting)
    check_limit(limit)


def check_loop(total, setting):
    """It is asked about a total of at least one item in a setting."""
    if not is_size(total):
        raise BadTotal(total)
    check_setting(setting)


def check_count(count, part):
    """So many chunks are a number that a list can have."""
    if not is_within(count, 1, Chunks.MOST):
        raise BadChunks(part)
