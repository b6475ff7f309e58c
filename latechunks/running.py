"""Runs of a pool: who takes which chunk when, reckoned in whole units of time."""

from math import lcm

from latechunks.checks import is_within
from latechunks.errors import BadPool, TooMany
from latechunks.ratios import Ratio

MOST_TAKINGS = 5000


class PoolState:
    """What a pool is like: its rule, the time, what loops have left, when workers are free, and what was taken.

    It never changes itself: each deed makes another one.
    """

    def __init__(self, cut_by, moment, left, free, done):
        self.cut_by = cut_by
        self.moment = moment
        self.left = left
        self.free = free
        self.done = done


class Run:
    """A run from a state on: the rows (loop, worker, many, begun, ended) of its takings, and what is behind them."""

    def __init__(self, setting, state, work):
        self.rows = []
        self.left = dict(state.left)
        self.free = dict(state.free)
        self._setting = setting
        self._state = state
        self._work = work
        self._unit = unit_for(setting, state)
        # Nothing is taken ahead of the time of the state.
        self._begins = {worker: later_of(free, state.moment) for worker, free in state.free.items()}
        self._ticks = {worker: (begin * self._unit).over for worker, begin in self._begins.items()}
        self._workers = sorted([str(worker) for worker in state.free])

    def go(self, until):
        """All takings are done that begin before a time, or at it."""
        last = (until * self._unit).floor()
        for name in waiting_in(self._state):
            while self.left[name] > 0:
                worker = self.next_worker(last)
                if worker is None:
                    return
                self.take_next(name, worker)

    def next_worker(self, last):
        """The worker that is free first, of several the least one; None if nobody is up to the last moment."""
        found = None
        for worker in self._workers:
            if self._ticks[worker] <= last and (found is None or self._ticks[worker] < self._ticks[found]):
                found = worker
        return found

    def take_next(self, name, worker):
        """A worker takes the next chunk of a loop."""
        if len(self.rows) == MOST_TAKINGS:
            raise TooMany("takings", MOST_TAKINGS)
        rule = self._state.cut_by
        size = rule(self.left[name])
        cost = cost_by(self._work, self._setting, name, size)
        lasting = self._setting.fee * self._unit + cost * (self._unit // self._setting.crew[worker])
        self._ticks[worker] = self._ticks[worker] + lasting
        ended = Ratio(self._ticks[worker], self._unit)
        self.rows.append((name, worker, size, self._begins[worker], ended))
        self._begins[worker] = ended
        self.free[worker] = ended
        self.left[name] = self.left[name] - size


def waiting_in(state):
    """The list of the names of the loops that have items left, in order."""
    return [name for name in state.left if state.left[name] > 0]


def unit_for(setting, state):
    """How many units a whole of time has, so that all moments of a run are told in whole ones."""
    unit = state.moment.under
    for worker, free in state.free.items():
        unit = lcm(unit, free.under, setting.crew[worker])
    return unit


def later_of(one, other):
    """The later one of two moments."""
    return other if one < other else one


def cost_by(work, setting, name, size):
    """What a chunk of a loop costs: what the work tells, the most without any."""
    if work is None:
        return setting.most * size
    cost = work(name, size)
    if not is_within(cost, setting.least * size, setting.most * size):
        raise BadPool("cost")
    return cost
