"""Looks at papers that tell how late a list of chunks can be."""

from latechunks.checks import is_within
from latechunks.errors import BadWorld
from latechunks.late import Latest, all_latenesses
from latechunks.plays import Play
from latechunks.ratios import Ratio


def shows_latest(chunks, setting, value):
    """Whether any value is a right Latest; its place need not be the least one, nor its world the worst one."""
    lates = all_latenesses(chunks, setting)
    if not isinstance(value, Latest) or not isinstance(value.late, Ratio):
        return False
    if not is_within(value.at, 0, len(lates) - 1) or value.late != lates[value.at]:
        return False
    return value.late == Ratio.greatest(lates) and is_as_late(chunks, setting, value.world, value.late)


def is_as_late(chunks, setting, world, late):
    """Whether any value is a World of this list and setting in whose play the lateness is just so much."""
    try:
        play = Play(chunks, setting, world)
    except BadWorld:
        return False
    return play.late == late
