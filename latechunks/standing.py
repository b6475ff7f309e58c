"""Which workers must stand ahead of others in the order, as takings tell, and the least order in which they do."""

from latechunks.ratios import Ratio


class Standing:
    """The moments at which workers begin and end takings; it tells who must stand ahead of whom."""

    def __init__(self, takings):
        self._begins = {}
        self._ends = {}
        for at, taking in enumerate(takings):
            begins = self._begins.setdefault(taking.worker, {})
            moment = moment_key(taking.begun)
            first = begins[moment][0] if moment in begins else at
            begins[moment] = (first, at)
            ends = self._ends.setdefault(taking.worker, {})
            ends[moment_key(taking.ended)] = True

    def is_ahead(self, one, other):
        """Whether a worker must stand ahead of another one."""
        begins = self._begins.get(other, {})
        ends = self._ends.get(other, {})
        for moment, (first, _) in self._begins.get(one, {}).items():
            # The indexes of the first and the last taking that a worker begins at a moment.
            if moment in begins:
                if first < begins[moment][1]:
                    return True
            elif moment in ends:
                return True
        return False


def moment_key(moment):
    """What stands for a moment among the keys of a dict."""
    ratio = Ratio.of(moment)
    return ratio.over, ratio.under


def betters_of(workers, standing):
    """For each worker the list of those who must stand ahead of it."""
    return {worker: [one for one in workers if one != worker and standing.is_ahead(one, worker)] for worker in workers}


def least_order(workers, betters):
    """The least order, worker by worker, of ascending workers; those who go round, and all behind them, are missing."""
    order = []
    left = list(workers)
    while left:
        free = [worker for worker in left if not any([one in betters[worker] for one in left])]
        if not free:
            return order
        order.append(free[0])
        left = [worker for worker in left if worker != free[0]]
    return order


def ring_of(left, betters):
    """A tuple of workers who go round: each of those who are left has somebody left who must stand ahead of it."""
    row = [left[0]]
    while row.count(row[-1]) == 1:
        row.append([one for one in left if one in betters[row[-1]]][0])
    # Each one stands ahead of the one that was put in before it.
    return tuple(row[row.index(row[-1]):-1][::-1])
