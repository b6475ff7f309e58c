"""Looks at papers that tell what logs fit to."""

from latechunks.checks import is_within
from latechunks.errors import BadWorld
from latechunks.logs import Fits, Misfit, Ring, check_log
from latechunks.misfits import CHECKS, ahead_of, applies
from latechunks.plays import Play
from latechunks.standing import Standing


def shows_log(log, paper):
    """Whether any value is a right Fits, a right Misfit or a right Ring of a log."""
    check_log(log)
    if isinstance(paper, Fits):
        return gives(log, paper.world)
    if isinstance(paper, Misfit):
        return is_misfit(log, paper.at, paper.why)
    return isinstance(paper, Ring) and goes_round(log, paper.workers)


def gives(log, world):
    """Whether any value is a World that, played, gives a log."""
    try:
        play = Play(log.chunks, log.setting, world)
    except BadWorld:
        return False
    return tuple(play) == log.takings


def is_misfit(log, at, why):
    """Whether any two values are the index of a taking and a word that applies to it."""
    if not is_within(at, 0, len(log) - 1) or why not in list(CHECKS):
        return False
    return applies(log, at, why, ahead_of(log, at))


def goes_round(log, workers):
    """Whether any value is a tuple of workers each of whom must stand ahead of the next one, round and round."""
    if not isinstance(workers, tuple) or len(workers) < 2 or not all([isinstance(name, str) for name in workers]):
        return False
    if len(set(workers)) < len(workers):
        return False
    standing = Standing(log.takings)
    return all([standing.is_ahead(one, other) for one, other in zip(workers, [*workers[1:], workers[0]])])
