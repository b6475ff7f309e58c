"""Loops in a row: they are taken one behind the other, without a wait between them."""

from latechunks.checks import is_name
from latechunks.chunks import Chunks, check_many, read_sizes
from latechunks.errors import BadLoop, NoLoop, TooMany
from latechunks.late import lateness
from latechunks.papers import Paper
from latechunks.settings import check_setting, check_unpaid
from latechunks.words import Reader
from latechunks.worths import greatest_worth, late_for, worths_of

MOST_LOOPS = 60


class Loops:
    """Loops, told by their names and Chunks, in order; they never change."""

    def __init__(self, *pairs):
        if not all([is_loop(pair) for pair in pairs]):
            raise BadLoop("pair")
        names = [name for name, _ in pairs]
        check_names(names)
        check_many(sum([len(chunks) for _, chunks in pairs]))
        self.names = tuple(names)
        self._pairs = pairs
        self._chunks = {name: chunks for name, chunks in pairs}

    @classmethod
    def read(cls, text):
        """The Loops of which str tells this text."""
        reader = Reader(text)
        told = read_loops(reader)
        reader.finish()
        # Ahead of the chunks, as the names are looked at first.
        check_names([name for name, _ in told])
        pairs = [(name, Chunks.of(sizes)) for name, sizes in told]
        return Loops(*pairs)

    def joined(self):
        """The Chunks of all loops, one behind the other."""
        return Chunks.of([size for _, chunks in self._pairs for size in chunks])

    def until(self, name):
        """The Loops up to this one, itself included."""
        if name not in self:
            raise NoLoop(name)
        pairs = self._pairs[:self.names.index(name) + 1]
        return Loops(*pairs)

    def ordered(self, *names):
        """The same loops in this order."""
        if not is_order_of(self, names):
            raise BadLoop("order")
        pairs = [(name, self._chunks[name]) for name in names]
        return Loops(*pairs)

    def __len__(self):
        return len(self._pairs)

    def __iter__(self):
        return iter(self._pairs)

    def __contains__(self, x):
        return isinstance(x, str) and x in self._chunks

    def __getitem__(self, at):
        if at not in self:
            raise NoLoop(at)
        return self._chunks[at]

    def __add__(self, other):
        if not isinstance(other, Loops):
            raise BadLoop("other")
        pairs = self._pairs + other._pairs
        return Loops(*pairs)

    def __eq__(self, other):
        return isinstance(other, Loops) and self._pairs == other._pairs

    def __str__(self):
        if not self._pairs:
            return "-"
        return " ; ".join([f"{name} {chunks}" for name, chunks in self._pairs])


class BestOrder(Paper):
    """An order of loops, their greatest lateness in it, and the name of a loop that has it."""

    def __init__(self, names, late, last):
        self.names = names
        self.late = late
        self.last = last

    def __eq__(self, other):
        return (isinstance(other, BestOrder) and self.names == other.names and self.late == other.late
                and self.last == other.last)


def end_lateness(loops, setting, name):
    """How late the end of a loop can be, against the perfect end of all items up to its last one."""
    check_loops(loops)
    check_setting(setting)
    return lateness(loops.until(name).joined(), setting)


def best_order(loops, setting):
    """The BestOrder of loops: those that are later on their own stand ahead."""
    check_ordered(loops, setting)
    owns = {name: greatest_worth(chunks, setting) for name, chunks in loops if len(chunks) > 0}
    names = by_worths(owns) + sorted([str(name) for name in loops.names if name not in owns])
    row = loops.ordered(*names)
    worths = worths_of(row.joined(), setting)
    if not worths:
        return BestOrder(row.names, None, None)
    greatest = greatest_worth(row.joined(), setting)
    return BestOrder(row.names, late_for(greatest, setting), loop_at(row, worths.index(greatest)))


def by_worths(owns):
    """The names of a dict to integers, by falling integers, those of equal ones ascending."""
    worths = sorted(set([owns[name] for name in owns]))
    names = sorted([str(name) for name in owns])
    return [name for worth in worths[::-1] for name in names if owns[name] == worth]


def loop_at(loops, place):
    """The name of the loop of the chunk with this place among the chunks of all loops."""
    ahead = 0
    for name, chunks in loops:
        ahead = ahead + len(chunks)
        if place < ahead:
            return name
    return None


def check_loops(loops):
    """Loops are Loops."""
    if not isinstance(loops, Loops):
        raise BadLoop("loops")


def check_ordered(loops, setting):
    """Loops are put in order in a setting without a fee."""
    check_loops(loops)
    check_unpaid(setting)


def is_loop(pair):
    """Whether any value is a tuple of a name and a Chunks."""
    return isinstance(pair, tuple) and len(pair) == 2 and is_name(pair[0]) and isinstance(pair[1], Chunks)


def check_names(names):
    """No name stands twice, and there are not too many loops."""
    if len(set(names)) < len(names):
        raise BadLoop("twice")
    if len(names) > MOST_LOOPS:
        raise TooMany("loops", MOST_LOOPS)


def is_order_of(loops, names):
    """Whether any values are just the names of loops, each once."""
    if len(names) != len(loops) or not all([name in loops for name in names]):
        return False
    return len(set(names)) == len(names)


def read_loops(reader):
    """The list of the pairs of the name and the list of the sizes of each loop, up to the end."""
    told = []
    if reader.at_hand() == "-":
        reader.expect("-")
        return told
    while not told or reader.at_hand() == ";":
        if told:
            reader.expect(";")
        name = reader.at_hand()
        reader.take(name if is_name(name) else None)
        told.append((name, read_sizes(reader)))
    return told
