"""Logs of who took which chunk when, and what they tell back of the world and of the lateness."""

from latechunks.checks import is_integer, is_name, is_within
from latechunks.chunks import Chunks
from latechunks.errors import BadLog, BadSetting, NoChunk
from latechunks.misfits import Ahead, cost_at, cost_for, word_for
from latechunks.papers import Denial, Paper
from latechunks.plays import Play, Taking, perfect_end
from latechunks.ratios import Ratio, gap_between
from latechunks.settings import check_setting
from latechunks.standing import Standing, betters_of, least_order, ring_of
from latechunks.worlds import World, is_moment


class Log:
    """Who took each chunk of a list, and from when to when; it never changes."""

    def __init__(self, chunks, setting, takings):
        check_parts(chunks, setting)
        if not are_takings(takings, chunks):
            raise BadLog("takings")
        self.chunks = chunks
        self.setting = setting
        self.takings = tuple(takings)

    @staticmethod
    def of(play):
        """The log of a Play."""
        if not isinstance(play, Play):
            raise BadLog("play")
        return Log(play.chunks, play.setting, list(play))

    def __len__(self):
        return len(self.takings)

    def __iter__(self):
        return iter(self.takings)

    def __getitem__(self, at):
        if not is_within(at, 0, len(self.takings) - 1):
            raise NoChunk(at)
        return self.takings[at]

    def __eq__(self, other):
        return (isinstance(other, Log) and self.chunks == other.chunks and self.setting == other.setting
                and self.takings == other.takings)


class Fits(Paper):
    """A world that, played, gives the log."""

    def __init__(self, world):
        self.world = world

    def __eq__(self, other):
        return isinstance(other, Fits) and self.world == other.world


class Misfit(Denial):
    """The index of a taking that cannot be, and the word that tells why."""

    def __init__(self, at, why):
        self.at = at
        self.why = why

    def __eq__(self, other):
        return isinstance(other, Misfit) and self.at == other.at and self.why == other.why


class Ring(Denial):
    """Workers each of whom must stand ahead of the next one in the order, and the last one ahead of the first."""

    def __init__(self, workers):
        self.workers = workers

    def __eq__(self, other):
        return isinstance(other, Ring) and self.workers == other.workers


class Came(Paper):
    """The least and the greatest number of workers that can have taken something."""

    def __init__(self, least, most):
        self.least = least
        self.most = most

    def __eq__(self, other):
        return isinstance(other, Came) and self.least == other.least and self.most == other.most


def fitting(log):
    """The Misfit of the first taking that cannot be, otherwise a Ring of workers, otherwise the Fits."""
    check_log(log)
    ahead = Ahead()
    for at, taking in enumerate(log.takings):
        why = word_for(log, at, ahead)
        if why is not None:
            return Misfit(at, why)
        ahead.put(taking)
    workers = log.setting.crew.workers
    betters = betters_of(workers, Standing(log.takings))
    order = least_order(workers, betters)
    left = [worker for worker in workers if worker not in order]
    return Ring(ring_of(left, betters)) if left else Fits(world_of(log, order))


def lateness_between(log):
    """The pair of the least and the greatest lateness of a log that fits, None without takings."""
    found = fitting(log)
    if not isinstance(found, Fits):
        raise BadLog("fit")
    if not log.takings:
        return None
    crew = log.setting.crew
    cost = sum(found.world.costs)
    end = Ratio.greatest([taking.ended for taking in log.takings])
    # Those who are not named can come at the last beginning, behind whoever takes then; the log stays.
    last = log.takings[-1].begun
    soonest = {worker: found.world[worker] if worker in found.world else last for worker in crew.workers}
    return end - perfect_end(crew, found.world.ready, cost), end - perfect_end(crew, soonest, cost)


def untold(chunks, setting, times):
    """The Came of a log without workers, the Misfit of the first taking that cannot be."""
    check_parts(chunks, setting)
    crew = setting.crew
    if crew.least_speed != crew.greatest_speed:
        raise BadSetting("speeds")
    if not are_times(times, chunks):
        raise BadLog("times")
    # The ends at which nothing has begun, and how many workers have come at least.
    ends = []
    came = 0
    for at, (begun, ended) in enumerate(times):
        gaps = [gap_between(end, begun) for end in ends]
        why = word_untold(chunks, setting, times, at, gaps)
        if why is not None:
            return Misfit(at, why)
        # Somebody who ends just then goes on, or else somebody new has come.
        if 0 in gaps:
            ends.pop(gaps.index(0))
        else:
            came += 1
        ends.append(ended)
    return Came(came, min(len(crew), greatest_came(times, came)))


def word_untold(chunks, setting, times, at, gaps):
    """The first word that applies to a taking without a worker, None if it can be; gaps lead from it to open ends."""
    begun, ended = times[at]
    crew = setting.crew
    if cost_for(setting, crew.least_speed, chunks.sizes[at], begun, ended) is None:
        return "cost"
    if at > 0 and begun < times[at - 1][0]:
        return "order"
    # Whoever ends while something is left begins something just then.
    if any([gap < 0 for gap in gaps]):
        return "idle"
    working = [gap for gap in gaps if gap > 0]
    return None if len(working) < len(crew) else "worker"


def greatest_came(times, came):
    """How many workers at most have taken something, if the crew were large enough; came of them surely have."""
    if not times:
        return 0
    last = times[-1][0]
    begins = len([begun for begun, _ in times if begun == last])
    ends = len([ended for _, ended in times if ended == last])
    # All that are taken at the last beginning can be taken by others than those who are free again then.
    return came + min(int(begins), ends)


def world_of(log, order):
    """The world that a log tells, with an order of the crew."""
    ready = {}
    for taking in log.takings:
        ready.setdefault(taking.worker, taking.begun)
    costs = [cost_at(log, at) for at in range(len(log))]
    return World(ready if ready else {log.setting.crew.workers[0]: 0}, costs, order)


def check_log(log):
    """A log is a Log."""
    if not isinstance(log, Log):
        raise BadLog("log")


def check_parts(chunks, setting):
    """A log is of a Chunks in a Setting."""
    if not isinstance(chunks, Chunks):
        raise BadLog("chunks")
    check_setting(setting)


def are_takings(takings, chunks):
    """Whether any value is a list or tuple of a Taking for each chunk."""
    if not isinstance(takings, (list, tuple)) or len(takings) != len(chunks):
        return False
    return all([is_taking_of(taking, at) for at, taking in enumerate(takings)])


def is_taking_of(taking, at):
    """Whether any value is a Taking of the chunk with this index."""
    if not isinstance(taking, Taking) or not is_integer(taking.at) or taking.at != at or not is_name(taking.worker):
        return False
    return is_moment(taking.begun) and is_moment(taking.ended)


def are_times(times, chunks):
    """Whether any value is a list or tuple of a pair of moments for each chunk."""
    if not isinstance(times, (list, tuple)) or len(times) != len(chunks):
        return False
    return all([isinstance(pair, tuple) and len(pair) == 2 and all([is_moment(one) for one in pair]) for pair in times])
