"""The errors of the package: each keeps what it is made with in attributes."""


class LateError(ValueError):
    """The base of all errors of the package."""


class BadName(LateError):
    """No name stands where a name must stand."""

    def __init__(self, value):
        self.value = value


class BadSize(LateError):
    """No size of a chunk, or number of chunks, that can be."""

    def __init__(self, value):
        self.value = value


class BadSpeed(LateError):
    """No speed of a worker."""

    def __init__(self, value):
        self.value = value


class BadCost(LateError):
    """No cost that can be."""

    def __init__(self, value):
        self.value = value


class BadFee(LateError):
    """No fee of a taking."""

    def __init__(self, value):
        self.value = value


class BadTotal(LateError):
    """No number of items of a loop."""

    def __init__(self, value):
        self.value = value


class BadLimit(LateError):
    """No limit of a lateness."""

    def __init__(self, value):
        self.value = value


class BadRatio(LateError):
    """No part, or no partner, of a fraction."""

    def __init__(self, value):
        self.value = value


class BadRest(LateError):
    """No number of items that are left."""

    def __init__(self, value):
        self.value = value


class BadChunks(LateError):
    """A part of what is told of chunks cannot be."""

    def __init__(self, part):
        self.part = part


class BadCrew(LateError):
    """A part of what is told of a crew cannot be."""

    def __init__(self, part):
        self.part = part


class BadSetting(LateError):
    """A part of what is told of a setting cannot be."""

    def __init__(self, part):
        self.part = part


class BadWorld(LateError):
    """A part of what is told of a world cannot be."""

    def __init__(self, part):
        self.part = part


class BadRule(LateError):
    """A part of what is told of a rule cannot be."""

    def __init__(self, part):
        self.part = part


class BadLog(LateError):
    """A part of what is told of a log cannot be."""

    def __init__(self, part):
        self.part = part


class BadLoop(LateError):
    """A part of what is told of loops cannot be."""

    def __init__(self, part):
        self.part = part


class BadPool(LateError):
    """A part of what is told to a pool cannot be."""

    def __init__(self, part):
        self.part = part


class BadPaper(LateError):
    """A part of what is told of a paper cannot be."""

    def __init__(self, part):
        self.part = part


class BadText(LateError):
    """A word of a text, told by its row and its index, cannot stand or is missing."""

    def __init__(self, line, word):
        self.line = line
        self.word = word


class BadLine(LateError):
    """A word of a line, told by its index, cannot stand or is missing."""

    def __init__(self, word):
        self.word = word


class NoWorker(LateError):
    """Nobody of this name works here."""

    def __init__(self, name):
        self.name = name


class NoChunk(LateError):
    """No chunk has this index."""

    def __init__(self, at):
        self.at = at


class NoLoop(LateError):
    """No loop has this name."""

    def __init__(self, name):
        self.name = name


class TooMany(LateError):
    """There would be more than so many."""

    def __init__(self, what, most):
        self.what = what
        self.most = most


class TooStrict(LateError):
    """No list is within this limit."""

    def __init__(self, limit):
        self.limit = limit


class Nothing(LateError):
    """Nothing is there that could be taken back."""
