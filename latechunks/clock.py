"""Who is free first: the moments of workers, reckoned in whole units of time."""

from math import lcm

from latechunks.ratios import Ratio


class Clock:
    """When workers are free, and which of them goes first: of several the one that stands first in an order."""

    def __init__(self, setting, order, free):
        self.free = dict(free)
        self._order = [worker for worker in order if worker in free]
        self._unit = unit_for(setting.crew, free)
        self._fee = setting.fee * self._unit
        self._ticks = {worker: (free[worker] * self._unit).over for worker in free}
        self._paces = {worker: self._unit // setting.crew[worker] for worker in free}

    def next_worker(self):
        """The worker that is free first, None if nobody is there."""
        found = None
        for worker in self._order:
            if found is None or self._ticks[worker] < self._ticks[found]:
                found = worker
        return found

    def spend(self, worker, cost):
        """A worker takes a chunk of this cost: the moments at which it begins, and is free again."""
        begun = self.free[worker]
        self._ticks[worker] = self._ticks[worker] + self._fee + cost * self._paces[worker]
        ended = Ratio(self._ticks[worker], self._unit)
        self.free[worker] = ended
        return begun, ended


def unit_for(crew, free):
    """How many units a whole of time has, so that all moments of these workers are whole units."""
    unit = 1
    for worker, moment in free.items():
        unit = lcm(unit, moment.under, crew[worker])
    return unit
