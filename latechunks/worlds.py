"""Worlds: when workers come, what chunks cost, and who goes first."""

from latechunks.checks import is_integer, is_name
from latechunks.chunks import Chunks
from latechunks.errors import BadWorld, NoWorker
from latechunks.ratios import Ratio, is_number, ratio_of
from latechunks.words import Reader, integer_of, integer_text, read_named, read_worths

LONGEST_ORDER = 8


class World:
    """The moments from which on workers are there, the costs of chunks and an order; it never changes."""

    def __init__(self, ready, costs, order):
        moments = moments_of(ready)
        if moments is None:
            raise BadWorld("ready")
        if not are_costs(costs):
            raise BadWorld("costs")
        if not is_order(order) or not all([name in order for name in moments]):
            raise BadWorld("order")
        self.costs = tuple(costs)
        self.order = tuple(order)
        self._moments = moments
        self._comers = tuple(by_moments(moments, order))

    @classmethod
    def read(cls, text):
        """The World of which str tells this text."""
        reader = Reader(text)
        ready, costs, order = read_world(reader)
        reader.finish()
        return cls(ready, costs, order)

    @property
    def ready(self):
        """A new dict from the names of the workers that come to their moments."""
        return dict(self._moments)

    def with_ready(self, worker, moment):
        """The world with another moment of a worker; None: it never comes."""
        if not is_name(worker) or worker not in self.order:
            raise NoWorker(worker)
        moments = {name: self._moments[name] for name in self._moments if name != worker}
        if moment is not None:
            moments[worker] = moment
        return World(moments, self.costs, self.order)

    def with_costs(self, costs):
        """The world with other costs."""
        return World(self._moments, costs, self.order)

    def with_order(self, order):
        """The world with another order."""
        return World(self._moments, self.costs, order)

    def __len__(self):
        return len(self._comers)

    def __iter__(self):
        return iter(self._comers)

    def __contains__(self, x):
        return isinstance(x, str) and x in self._moments

    def __getitem__(self, at):
        if at not in self:
            raise NoWorker(at)
        return self._moments[at]

    def __add__(self, other):
        if not is_moment(other):
            raise BadWorld("moment")
        return World({name: moment + other for name, moment in self._moments.items()}, self.costs, self.order)

    def __eq__(self, other):
        return (isinstance(other, World) and self._moments == other._moments and self.costs == other.costs
                and self.order == other.order)

    def __str__(self):
        return " ".join([moments_text(self._moments), "/", costs_text(self.costs), "/", *self.order])


def is_moment(value):
    """Whether any value is a number from 0 on."""
    return is_number(value) and value >= 0


def moments_of(ready):
    """A new dict from names, ascending, to moments as Ratios; None if ready does not tell when somebody comes."""
    if not isinstance(ready, dict) or len(ready) == 0:
        return None
    if not all([is_name(name) and is_moment(ready[name]) for name in ready]):
        return None
    return {name: Ratio.of(ready[name]) for name in sorted([str(name) for name in ready])}


def are_costs(costs):
    """Whether any value is a list or tuple of costs of chunks."""
    if not isinstance(costs, (list, tuple)) or len(costs) > Chunks.MOST:
        return False
    return all([is_integer(cost) and cost >= 1 for cost in costs])


def is_order(order):
    """Whether any value is a list or tuple of unlike names."""
    if not isinstance(order, (list, tuple)) or not 1 <= len(order) <= LONGEST_ORDER:
        return False
    return all([is_name(name) for name in order]) and len(set(order)) == len(order)


def by_moments(moments, order):
    """The names of those who come, by their moments, at equal moments as they stand in the order."""
    comers = []
    for name in order:
        if name in moments:
            sooner = [comer for comer in comers if moments[comer] <= moments[name]]
            comers.insert(len(sooner), name)
    return comers


def moments_text(moments):
    """The words of names and moments."""
    return " ".join([f"{name} {moment}" for name, moment in moments.items()])


def costs_text(costs):
    """The words of costs, `-` without any."""
    return " ".join([integer_text(cost) for cost in costs]) if costs else "-"


def moment_of(word):
    """The moment that any value writes, None if it writes none."""
    moment = ratio_of(word)
    return None if moment is None or moment < 0 else moment


def cost_of(word):
    """The cost of a chunk that any value writes, None if it writes none."""
    cost = integer_of(word)
    return None if cost is None or cost < 1 else cost


def read_world(reader):
    """What the words of a world tell: the moments, the costs and the order."""
    ready = read_named(reader, moment_of)
    reader.expect("/")
    costs = read_worths(reader, cost_of)
    reader.expect("/")
    return ready, costs, read_order(reader)


def read_order(reader):
    """The list of the names, each once, up to the end."""
    order = []
    while not order or reader.at_hand() is not None:
        name = reader.at_hand()
        order.append(reader.take(name if is_name(name) and name not in order else None))
    return order
