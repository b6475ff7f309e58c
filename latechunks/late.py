"""How late a list of chunks can be, over all worlds."""

from latechunks.checks import is_within
from latechunks.chunks import check_chunks
from latechunks.errors import NoChunk
from latechunks.papers import Paper
from latechunks.ratios import Ratio
from latechunks.settings import check_setting
from latechunks.worlds import World
from latechunks.worths import greatest_worth, late_for, worths_of


class Latest(Paper):
    """The greatest lateness of a list, the place of a chunk that has it, and a world that is that late."""

    def __init__(self, late, at, world):
        self.late = late
        self.at = at
        self.world = world

    def __eq__(self, other):
        return (isinstance(other, Latest) and self.late == other.late and self.at == other.at
                and self.world == other.world)


def lateness_at(chunks, setting, at):
    """How late the chunk at a place can be, in the main statement of the document."""
    check_place(chunks, setting, at)
    return setting.late_of(chunks.rests[at], at, chunks.sizes[at])


def all_latenesses(chunks, setting):
    """The tuple of lateness_at of all places."""
    check_list(chunks, setting)
    return tuple([late_for(worth, setting) for worth in worths_of(chunks, setting)])


def lateness(chunks, setting):
    """The greatest lateness of a list over all worlds, None without chunks."""
    check_list(chunks, setting)
    return late_for(greatest_worth(chunks, setting), setting) if len(chunks) > 0 else None


def world_at(chunks, setting, at):
    """The worst world at the chunk at a place."""
    check_place(chunks, setting, at)
    crew = setting.crew
    # The fastest worker alone does all chunks ahead of this one; the others come just when it is free again.
    moment = at * setting.fee + Ratio(setting.least * (chunks.total - chunks.rests[at]), crew.greatest_speed)
    ready = {name: 0 if name == crew.fastest else moment for name in crew.workers}
    costs = [setting.least * size for size in chunks.sizes]
    costs[at] = setting.most * chunks.sizes[at]
    return World(ready, costs, [crew.slowest, *[name for name in crew.workers if name != crew.slowest]])


def latest(chunks, setting):
    """The greatest lateness of a list, the least place of a chunk that has it, and the worst world at it."""
    late = lateness(chunks, setting)
    if late is None:
        return None
    at = worths_of(chunks, setting).index(greatest_worth(chunks, setting))
    return Latest(late, at, world_at(chunks, setting, at))


def check_list(chunks, setting):
    """It is asked about a Chunks in a Setting."""
    check_chunks(chunks)
    check_setting(setting)


def check_place(chunks, setting, at):
    """It is asked about the chunk at a place of a Chunks in a Setting."""
    check_list(chunks, setting)
    if not is_within(at, 0, len(chunks) - 1):
        raise NoChunk(at)
