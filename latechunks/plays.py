"""Plays of lists of chunks in worlds."""

from latechunks.checks import is_within
from latechunks.chunks import check_chunks
from latechunks.clock import Clock
from latechunks.crews import Crew
from latechunks.errors import BadCost, BadCrew, BadWorld, NoChunk, NoWorker
from latechunks.papers import Paper
from latechunks.ratios import Ratio
from latechunks.settings import check_setting
from latechunks.worlds import World, by_moments, is_moment, moments_of


class Taking(Paper):
    """A worker takes a chunk: which one, when, and when it is free again."""

    def __init__(self, worker, at, begun, ended):
        self.worker = worker
        self.at = at
        self.begun = begun
        self.ended = ended

    def __eq__(self, other):
        return (isinstance(other, Taking) and self.worker == other.worker and self.at == other.at
                and self.begun == other.begun and self.ended == other.ended)


class Play:
    """The play of a list of chunks in a world; it never changes."""

    def __init__(self, chunks, setting, world):
        check_play(chunks, setting, world)
        self.chunks = chunks
        self.setting = setting
        self.world = world
        self._rows = tuple(played(setting, world))
        self.end = None
        self.perfect = None
        self.late = None
        if self._rows:
            self.end = Ratio.greatest([row.ended for row in self._rows])
            self.perfect = perfect_end(setting.crew, world.ready, sum(world.costs))
            self.late = self.end - self.perfect

    @property
    def free_at(self):
        """A new dict that tells for each worker that comes when it is free behind all its chunks."""
        return free_behind(self._rows, self.world)

    def takings_of(self, worker):
        """The Takings of a worker, in order."""
        if worker not in self.setting.crew:
            raise NoWorker(worker)
        return tuple([row for row in self._rows if row.worker == worker])

    def __len__(self):
        return len(self._rows)

    def __iter__(self):
        return iter(self._rows)

    def __getitem__(self, at):
        if isinstance(at, int) and not is_within(at, 0, len(self._rows) - 1):
            raise NoChunk(at)
        return self._rows[at]

    def __eq__(self, other):
        return (isinstance(other, Play) and self.chunks == other.chunks and self.setting == other.setting
                and self.world == other.world)


def takings(chunks, setting, world):
    """The Takings of a play, by chunks."""
    check_play(chunks, setting, world)
    yield from played(setting, world)


def offered(crew, ready, moment):
    """What workers could have done by a moment."""
    moments = checked_moments(crew, ready)
    if not is_moment(moment):
        raise BadWorld("moment")
    done = Ratio(0)
    for name, begin in moments.items():
        if begin < moment:
            done = done + (moment - begin) * crew[name]
    return done


def perfect_end(crew, ready, cost):
    """The least moment by which workers could have done a cost."""
    moments = checked_moments(crew, ready)
    if not is_moment(cost):
        raise BadCost(cost)
    if cost == 0:
        return Ratio(0)
    # Whoever comes behind the perfect end would only make the moment later: so the least one is the right one.
    least = None
    speed = 0
    missed = Ratio(0)
    for name in by_moments(moments, crew.workers):
        speed = speed + crew[name]
        missed = missed + moments[name] * crew[name]
        moment = (missed + cost) * Ratio(1, speed)
        if least is None or moment < least:
            least = moment
    return least


def check_play(chunks, setting, world):
    """The world is one of these chunks and this setting."""
    check_chunks(chunks)
    check_setting(setting)
    if not isinstance(world, World):
        raise BadWorld("world")
    if not all([name in setting.crew for name in world]):
        raise BadWorld("ready")
    if len(world.order) != len(setting.crew) or not all([name in setting.crew for name in world.order]):
        raise BadWorld("order")
    if len(world.costs) != len(chunks):
        raise BadWorld("costs")
    for size, cost in zip(chunks, world.costs):
        if not is_within(cost, size * setting.least, size * setting.most):
            raise BadWorld("costs")


def played(setting, world):
    """The list of the Takings of a play, by chunks: the next chunk goes to whoever is free first."""
    clock = Clock(setting, world.order, world.ready)
    rows = []
    for at, cost in enumerate(world.costs):
        worker = clock.next_worker()
        begun, ended = clock.spend(worker, cost)
        rows.append(Taking(worker, at, begun, ended))
    return rows


def free_behind(rows, world):
    """When each worker that comes is free behind all its chunks; rows are the Takings by chunks."""
    last = {row.worker: row.ended for row in rows}
    return {name: last[name] if name in last else world[name] for name in world}


def checked_moments(crew, ready):
    """The moments of workers of a crew, as Ratios."""
    if not isinstance(crew, Crew):
        raise BadCrew("crew")
    moments = moments_of(ready)
    if moments is None or not all([name in crew for name in moments]):
        raise BadWorld("ready")
    return moments
