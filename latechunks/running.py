"""Runs of a pool: who takes which chunk when."""

from latechunks.checks import is_within
from latechunks.clock import Clock
from latechunks.errors import BadPool, TooMany

MOST_TAKINGS = 5000


class PoolState:
    """What a pool is like: its rule, the time, what loops have left, when workers are free, and what was taken.

    It never changes itself: each deed makes another one.
    """

    def __init__(self, cut_by, moment, left, free, done):
        self.cut_by = cut_by
        self.moment = moment
        self.left = left
        self.free = free
        self.done = done


class Run:
    """A run from a state on: the rows (loop, worker, many, begun, ended) of its takings, and what is behind them."""

    def __init__(self, setting, state, work):
        self.rows = []
        self.left = dict(state.left)
        self.free = dict(state.free)
        self._setting = setting
        self._state = state
        self._work = work
        # Nothing is taken ahead of the time of the state.
        begins = {worker: later_of(free, state.moment) for worker, free in state.free.items()}
        self._clock = Clock(setting, sorted([str(worker) for worker in begins]), begins)

    def go(self, until):
        """All takings are done that begin before a time, or at it."""
        for name in waiting_in(self._state):
            while self.left[name] > 0:
                worker = self._clock.next_worker()
                if worker is None or self._clock.free[worker] > until:
                    return
                self.take_next(name, worker)

    def take_next(self, name, worker):
        """A worker takes the next chunk of a loop."""
        if len(self.rows) == MOST_TAKINGS:
            raise TooMany("takings", MOST_TAKINGS)
        rule = self._state.cut_by
        size = rule(self.left[name])
        begun, ended = self._clock.spend(worker, cost_by(self._work, self._setting, name, size))
        self.rows.append((name, worker, size, begun, ended))
        self.free[worker] = ended
        self.left[name] = self.left[name] - size


def waiting_in(state):
    """The list of the names of the loops that have items left, in order."""
    return [name for name in state.left if state.left[name] > 0]


def later_of(one, other):
    """The later one of two moments."""
    return other if one < other else one


def cost_by(work, setting, name, size):
    """What a chunk of a loop costs: what the work tells, the most without any."""
    if work is None:
        return setting.most * size
    cost = work(name, size)
    if not is_within(cost, setting.least * size, setting.most * size):
        raise BadPool("cost")
    return cost
