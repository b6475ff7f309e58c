"""Cases: what is asked about one loop, for a file."""

from latechunks.chunks import Chunks
from latechunks.errors import BadChunks, BadRule, BadWorld
from latechunks.rules import By, Rule
from latechunks.settings import check_setting
from latechunks.worlds import World


class Case:
    """A setting and, where they are told, a list of chunks, a rule and a world; it never changes."""

    def __init__(self, setting, chunks=None, cut_by=None, world=None):
        check_setting(setting)
        if chunks is not None and not isinstance(chunks, Chunks):
            raise BadChunks("chunks")
        if cut_by is not None and not is_written(cut_by):
            raise BadRule("cut_by")
        if world is not None and not isinstance(world, World):
            raise BadWorld("world")
        self.setting = setting
        self.chunks = chunks
        self.cut_by = cut_by
        self.world = world

    def with_parts(self, chunks=None, cut_by=None, world=None):
        """The case with other parts; None keeps the old one."""
        return Case(self.setting, self.chunks if chunks is None else chunks,
                    self.cut_by if cut_by is None else cut_by, self.world if world is None else world)

    def __eq__(self, other):
        return (isinstance(other, Case) and self.setting == other.setting and self.chunks == other.chunks
                and self.cut_by == other.cut_by and self.world == other.world)


def is_written(cut_by):
    """Whether any value is a rule that a text can tell: no rule of a function."""
    return isinstance(cut_by, Rule) and not isinstance(cut_by, By)
