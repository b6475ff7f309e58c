"""Batches: several chunks of one size, taken one behind the other, before the next size is told."""

from latechunks.checks import is_within
from latechunks.chunks import Chunks, check_total
from latechunks.errors import BadRule
from latechunks.papers import Denial, Paper
from latechunks.settings import check_unpaid
from latechunks.words import Reader
from latechunks.worths import late_for, straight_worths

MOST_OVER = 24


class Batched:
    """Batches of so many chunks, each of them one of so many parts of what is left; it never changes."""

    def __init__(self, many, over):
        if not is_within(over, 1, MOST_OVER):
            raise BadRule("over")
        if not is_within(many, 1, over):
            raise BadRule("many")
        self.many = many
        self.over = over

    @classmethod
    def read(cls, text):
        """The Batched of which str tells this text."""
        reader = Reader(text)
        reader.expect("batched")
        many = reader.integer(1, MOST_OVER)
        over = reader.integer(many, MOST_OVER)
        reader.finish()
        return cls(many, over)

    def batches(self, total):
        """The triples of the rest, the size and the count of each batch of so many items."""
        check_total(total)
        left = total
        while left > 0:
            size = size_of(self, left)
            count = min(int(self.many), -(-left // size))
            yield left, size, count
            left = left - min(int(left), size * count)

    def cut(self, total):
        """The Chunks of all batches of so many items."""
        sizes = []
        for rest, size, count in self.batches(total):
            sizes.extend([chunk for _, chunk in spots_of(rest, size, count)])
        return Chunks.of(sizes)

    def __eq__(self, other):
        return isinstance(other, Batched) and self.many == other.many and self.over == other.over

    def __str__(self):
        return f"batched {self.many} {self.over}"


class BatchBound(Paper):
    """The greatest late of a chunk of any batch, the least rest of a batch that has it, and its spot there."""

    def __init__(self, late, rest, spot):
        self.late = late
        self.rest = rest
        self.spot = spot

    def __eq__(self, other):
        return (isinstance(other, BatchBound) and self.late == other.late and self.rest == other.rest
                and self.spot == other.spot)


class BatchEndless(Denial):
    """The spot of the last chunk of a batch, and how much its late grows with each whole step of the rest."""

    def __init__(self, spot, rise):
        self.spot = spot
        self.rise = rise

    def __eq__(self, other):
        return isinstance(other, BatchEndless) and self.spot == other.spot and self.rise == other.rise


def greatest_batched(batched, setting):
    """The BatchBound of batches for all totals, the BatchEndless if late grows without end."""
    if not isinstance(batched, Batched):
        raise BadRule("batched")
    check_unpaid(setting)
    by_size, by_rest = setting.straight()
    last = batched.many - 1
    rise = by_size - by_rest * (batched.over - last)
    return BatchEndless(last, rise) if rise > 0 else bound_of(batched, setting)


def bound_of(batched, setting):
    """The BatchBound of batches whose last chunk does not rise."""
    by_size, by_rest = straight_worths(setting)
    found = None
    # Above this rest nothing is greater, as point [10] of the document derives.
    for rest in range(1, batched.over * batched.over + 1):
        for spot, (left, size) in enumerate(spots_of(rest, size_of(batched, rest), batched.many)):
            worth = by_size * size - by_rest * left
            if found is None or worth > found[0]:
                found = (worth, rest, spot)
    return BatchBound(late_for(found[0], setting), found[1], found[2])


def size_of(batched, rest):
    """The size of the chunks of a batch that begins at a rest."""
    return -(-rest // batched.over)


def spots_of(rest, size, many):
    """The pairs of what is left and the chunk that is taken, for at most so many chunks of a batch."""
    lefts = [rest - spot * size for spot in range(many)]
    return [(left, min(int(left), size)) for left in lefts if left > 0]
