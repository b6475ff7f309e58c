"""Lists of chunks of a loop."""

from latechunks.checks import GREATEST_SIZE, is_integer, is_size, is_within
from latechunks.errors import BadChunks, BadSize, BadTotal, NoChunk, TooMany
from latechunks.words import Reader, number_of, read_worths


class Chunks:
    """A list of chunks, told by their sizes, in order; it never changes."""

    MOST = 5000

    def __init__(self, *sizes):
        for size in sizes:
            if not is_size(size):
                raise BadSize(size)
        check_many(len(sizes))
        ends = []
        done = 0
        for size in sizes:
            done = done + size
            ends.append(done)
        self.sizes = sizes
        self.total = done
        self.ends = tuple(ends)
        self.rests = tuple([done - end + size for end, size in zip(ends, sizes)])

    @staticmethod
    def of(sizes):
        """The Chunks of a list or tuple of sizes."""
        if not isinstance(sizes, (list, tuple)):
            raise BadChunks("sizes")
        return Chunks(*sizes)

    @classmethod
    def read(cls, text):
        """The Chunks of which str tells this text."""
        reader = Reader(text)
        sizes = read_sizes(reader)
        reader.finish()
        return cls.of(sizes)

    @staticmethod
    def even(total, size):
        """Chunks of one size, and the rest as a last one."""
        check_total(total)
        if not is_size(size):
            raise BadSize(size)
        check_many(-(-total // size))
        whole, left = divmod(total, size)
        return Chunks.of([size] * whole + ([left] if left else []))

    @staticmethod
    def shared(total, many):
        """So many chunks whose sizes differ by at most 1, the greater ones first."""
        check_total(total)
        if not is_within(many, min(1, total), total):
            raise BadSize(many)
        check_many(many)
        if many == 0:
            return Chunks()
        size, greater = divmod(total, many)
        return Chunks.of([size + 1] * greater + [size] * (many - greater))

    @staticmethod
    def tapered(total, first, last):
        """Chunks whose sizes fall from first towards last by one step each, and what is left as a last one."""
        check_total(total)
        if not is_size(first):
            raise BadSize(first)
        if not is_within(last, 1, first):
            raise BadSize(last)
        many = -(-2 * total // (first + last))
        step = (first - last) // (many - 1) if many > 1 else 0
        sizes = []
        left = total
        while left > 0:
            check_many(len(sizes) + 1)
            sizes.append(min(int(left), first - step * len(sizes)))
            left = left - sizes[-1]
        return Chunks.of(sizes)

    def __len__(self):
        return len(self.sizes)

    def __iter__(self):
        return iter(self.sizes)

    def __contains__(self, x):
        return is_integer(x) and x in self.sizes

    def __getitem__(self, at):
        if not isinstance(at, int):
            return Chunks.of(self.sizes[at])
        if not is_within(at, 0, len(self.sizes) - 1):
            raise NoChunk(at)
        return self.sizes[at]

    def __add__(self, other):
        check_other(other)
        return Chunks.of(self.sizes + other.sizes)

    def __mul__(self, other):
        if not is_integer(other) or other < 0:
            raise BadChunks("times")
        check_many(other * len(self.sizes))
        # Nothing can be repeated any number of times, but Python counts only so far.
        return Chunks.of(self.sizes * other) if self.sizes else Chunks()

    def __rmul__(self, other):
        return self * other

    def __invert__(self):
        return Chunks.of(self.sizes[::-1])

    def __le__(self, other):
        check_other(other)
        return self.total == other.total and len(set(self.ends + other.ends)) == len(self.ends)

    def __lt__(self, other):
        return self <= other and not self == other

    def __and__(self, other):
        check_other(other, self.total)
        return Chunks.of(sizes_between(sorted(set(self.ends + other.ends))))

    def __or__(self, other):
        check_other(other, self.total)
        known = {end: True for end in other.ends}
        return Chunks.of(sizes_between([end for end in self.ends if end in known]))

    def __eq__(self, other):
        return isinstance(other, Chunks) and self.sizes == other.sizes

    def __str__(self):
        if not self.sizes:
            return "-"
        return " ".join([str(size) for size in self.sizes])

    def cut(self, at):
        """The Chunks of the first so many items and those of the others; a chunk that lies across is divided."""
        if not is_within(at, 0, self.total):
            raise BadChunks("at")
        front = [end for end in self.ends if end < at]
        back = [end - at for end in self.ends if end > at]
        if at > 0:
            front.append(at)
        return Chunks.of(sizes_between(front)), Chunks.of(sizes_between(back))

    def place_of(self, item):
        """The index of the chunk in which an item lies."""
        if not is_within(item, 0, self.total - 1):
            raise BadChunks("item")
        return len([end for end in self.ends if end <= item])


def check_chunks(chunks):
    """A list of chunks is a Chunks."""
    if not isinstance(chunks, Chunks):
        raise BadChunks("chunks")


def check_many(many):
    """There are at most so many chunks in a list."""
    if many > Chunks.MOST:
        raise TooMany("chunks", Chunks.MOST)


def check_total(total):
    """What is cut to chunks is a number of items."""
    if not is_within(total, 0, GREATEST_SIZE):
        raise BadTotal(total)


def check_other(other, total=None):
    """What stands on the right of an operator is a Chunks, of this total if one is told."""
    if not isinstance(other, Chunks):
        raise BadChunks("other")
    if total is not None and total != other.total:
        raise BadChunks("total")


def read_sizes(reader):
    """The list of the sizes of chunks, up to a parting sign or the end."""
    return read_worths(reader, lambda word: number_of(word, 1, GREATEST_SIZE))


def sizes_between(ends):
    """The sizes of the chunks that have these ends, ascending."""
    return [end - begin for begin, end in zip([0, *ends], ends)]
