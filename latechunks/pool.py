"""A live pool of workers to which loops come."""

from latechunks.checks import GREATEST_SIZE, is_name, is_size, is_within
from latechunks.chunks import Chunks
from latechunks.cutting import sizes_by
from latechunks.errors import BadName, BadPool, BadTotal, NoWorker
from latechunks.history import History, Trial
from latechunks.late import lateness
from latechunks.papers import Paper
from latechunks.ratios import Ratio, is_number
from latechunks.rules import Rule
from latechunks.running import PoolState, Run, waiting_in
from latechunks.settings import Setting


class PoolTaking(Paper):
    """A worker takes so many items of a loop: which one, who, how many, and from when to when."""

    def __init__(self, loop, worker, many, begun, ended):
        self.loop = loop
        self.worker = worker
        self.many = many
        self.begun = begun
        self.ended = ended

    def __eq__(self, other):
        return (isinstance(other, PoolTaking) and self.loop == other.loop and self.worker == other.worker
                and self.many == other.many and self.begun == other.begun and self.ended == other.ended)


class Pool:
    """Workers come and stay, loops come and wait, and whoever is free takes the next chunk of the first one."""

    def __init__(self, setting, rule, work=None):
        if not isinstance(setting, Setting):
            raise BadPool("setting")
        check_rule(rule)
        self.setting = setting
        self._work = work
        self._history = History(PoolState(rule, Ratio(0), {}, {}, ()))

    @property
    def now(self):
        """The time."""
        return self._history.state.moment

    @property
    def waiting(self):
        """The tuple of the pairs (name, items left) of the loops that have items left, in order."""
        state = self._history.state
        return tuple([(name, state.left[name]) for name in waiting_in(state)])

    @property
    def here(self):
        """The ascending tuple of the workers that have come."""
        return tuple(sorted([str(worker) for worker in self._history.state.free]))

    @property
    def log(self):
        """The tuple of the PoolTakings so far."""
        return self._history.state.done

    @property
    def deeds(self):
        """How many deeds can be taken back."""
        return len(self._history.past)

    @property
    def rule(self):
        """The rule that tells the sizes of the next chunks."""
        return self._history.state.cut_by

    @rule.setter
    def rule(self, value):
        self.set_rule(value)

    def set_rule(self, rule):
        """Another rule from now on."""
        check_rule(rule)
        state = self._history.state
        self._history.change("rule", PoolState(rule, state.moment, state.left, state.free, state.done))

    def add(self, name, items):
        """A loop comes, behind the others."""
        if not is_name(name):
            raise BadName(name)
        if name in self:
            raise BadPool("twice")
        if not is_size(items):
            raise BadTotal(items)
        self._history.change("add", with_left(self._history.state, name, items))

    def come(self, worker, time):
        """A worker is there from a time on."""
        if worker not in self.setting.crew:
            raise NoWorker(worker)
        state = self._history.state
        if worker in state.free:
            raise BadPool("here")
        check_time(time, state.moment)
        free = {**state.free, worker: Ratio.of(time)}
        self._history.change("come", PoolState(state.cut_by, state.moment, state.left, free, state.done))

    def run(self, until):
        """Time goes on: all takings are done that begin before a time, or at it; they are returned."""
        state = self._history.state
        check_time(until, state.moment)
        moment = Ratio.of(until)
        run = Run(self.setting, state, self._work)
        run.go(moment)
        told = tuple([PoolTaking(*row) for row in run.rows])
        self._history.change("run", PoolState(state.cut_by, moment, run.left, run.free, state.done + told))
        return told

    def busy_until(self, worker):
        """When a worker that has come is free."""
        state = self._history.state
        if not is_name(worker) or worker not in state.free:
            raise NoWorker(worker)
        return state.free[worker]

    def end_of(self, name):
        """The greatest end of a chunk of a loop that has no items left, None if it had no chunk."""
        if self[name] > 0:
            raise BadPool("open")
        ends = [taking.ended for taking in self._history.state.done if taking.loop == name]
        return Ratio.greatest(ends) if ends else None

    def ahead(self):
        """The Chunks that would be taken from now on, if nothing is added or changed."""
        sizes = []
        for _, items in self.waiting:
            more = sizes_by(self.rule, items, len(sizes))
            sizes.extend(more)
        return Chunks.of(sizes)

    def bound(self):
        """How late what waits can be, None if nothing waits."""
        return lateness(self.ahead(), self.setting)

    def undo(self):
        """Takes back the last deed that is not taken back, and returns its word."""
        return self._history.back()

    def trial(self):
        """A block behind which the pool is as it was when the block began."""
        return Trial(self, self._history)

    def tried(self, ask):
        """What a function tells of the pool, behind which the pool is as it was."""
        with self.trial() as same:
            return ask(same)

    def twin(self):
        """An equal pool with the same work and nothing to take back, which goes its own way."""
        other = Pool(self.setting, self.rule, self._work)
        other._history = History(self._history.state)
        return other

    def __len__(self):
        return len(self.waiting)

    def __iter__(self):
        raise TypeError("a pool cannot be iterated over")

    def __contains__(self, x):
        return isinstance(x, str) and x in self._history.state.left

    def __getitem__(self, at):
        check_loop(self, at)
        return self._history.state.left[at]

    def __setitem__(self, at, worth):
        check_loop(self, at)
        if not is_within(worth, 0, GREATEST_SIZE):
            raise BadTotal(worth)
        self._history.change("set", with_left(self._history.state, at, worth))

    def __eq__(self, other):
        return (isinstance(other, Pool) and self.setting == other.setting
                and are_alike(self._history.state, other._history.state))


def check_rule(rule):
    """The rule of a pool is a Rule."""
    if not isinstance(rule, Rule):
        raise BadPool("rule")


def check_time(value, now):
    """A time is a number that does not lie ahead of now."""
    if not is_number(value) or value < now:
        raise BadPool("time")


def check_loop(pool, name):
    """A loop of this name has come to the pool."""
    if name not in pool:
        raise BadPool("loop")


def with_left(state, name, items):
    """The state of a pool in which a loop has so many items left."""
    return PoolState(state.cut_by, state.moment, {**state.left, name: items}, state.free, state.done)


def are_alike(one, other):
    """Whether two states of pools are equal: the loops stand in order, the workers do not."""
    rules_fit = one.cut_by == other.cut_by and one.moment == other.moment
    return (rules_fit and list(one.left.items()) == list(other.left.items()) and one.free == other.free
            and one.done == other.done)
