"""Why a taking of a log cannot be: for each word a check, and what the takings ahead of one tell."""

from latechunks.checks import is_within
from latechunks.ratios import Ratio


class Ahead:
    """When the workers of takings end: the last taking of each, and the one that ends last."""

    def __init__(self):
        self.last_ends = {}
        self.greatest_ends = {}

    def put(self, taking):
        """One more taking lies ahead."""
        worker = taking.worker
        self.last_ends[worker] = taking.ended
        if worker not in self.greatest_ends or self.greatest_ends[worker] < taking.ended:
            self.greatest_ends[worker] = taking.ended


def is_alien(log, at, ahead):
    """Whether the worker of a taking is none of the crew."""
    return log.takings[at].worker not in log.setting.crew


def is_wrongly_paid(log, at, ahead):
    """Whether a taking, of a worker of the crew, lasts as no cost of its chunk does."""
    return not is_alien(log, at, ahead) and cost_at(log, at) is None


def is_too_early(log, at, ahead):
    """Whether a taking begins ahead of the one ahead of it."""
    return at > 0 and log.takings[at].begun < log.takings[at - 1].begun


def is_busy(log, at, ahead):
    """Whether the worker of a taking still works on an earlier one at its beginning."""
    taking = log.takings[at]
    return taking.worker in ahead.greatest_ends and ahead.greatest_ends[taking.worker] > taking.begun


def finds_idle(log, at, ahead):
    """Whether some worker was done ahead of the beginning of a taking, and should have taken this chunk."""
    begun = log.takings[at].begun
    return any([ahead.last_ends[worker] < begun for worker in ahead.last_ends])


CHECKS = {"worker": is_alien, "cost": is_wrongly_paid, "order": is_too_early, "busy": is_busy, "idle": finds_idle}


def applies(log, at, why, ahead):
    """Whether one of the words applies to a taking."""
    check = CHECKS[why]
    return check(log, at, ahead)


def word_for(log, at, ahead):
    """The first word that applies to a taking, None if it can be."""
    for why in CHECKS:
        if applies(log, at, why, ahead):
            return why
    return None


def ahead_of(log, at):
    """What the takings ahead of one tell."""
    ahead = Ahead()
    for taking in log.takings[:at]:
        ahead.put(taking)
    return ahead


def cost_at(log, at):
    """The cost that a taking of a worker of the crew tells, None if its chunk cannot have it."""
    taking = log.takings[at]
    speed = log.setting.crew[taking.worker]
    return cost_for(log.setting, speed, log.chunks.sizes[at], taking.begun, taking.ended)


def cost_for(setting, speed, size, begun, ended):
    """The cost of a chunk of this size that a worker of this speed does in this time, None if it cannot have it."""
    lasted = Ratio.of(ended) - begun
    cost, left = divmod((lasted.over - setting.fee * lasted.under) * speed, lasted.under)
    fits = left == 0 and is_within(cost, setting.least * size, setting.most * size)
    return cost if fits else None
