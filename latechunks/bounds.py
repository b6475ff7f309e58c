"""Which sizes are let within a limit, in integers: late is the greater one of two cases, so both must let a size."""

from latechunks.checks import GREATEST_SIZE
from latechunks.ratios import Ratio


def bounds_of(setting, limit):
    """The two bounds of the sizes that are let within a limit, made once for many rests and places."""
    most = Ratio.of(limit)
    crew = setting.crew
    return [bound_by(setting, most, speed) for speed in (crew.greatest_speed, crew.speed)]


def bound_by(setting, limit, by):
    """What bounds the sizes that are let if E [6] is divided by this speed.

    size * by_size is at most start + by_item * S - by_place * i, with S items behind the chunk and i chunks ahead.
    """
    slow = setting.crew.least_speed
    start = slow * by * (limit.over - limit.under * setting.fee)
    by_item = limit.under * slow * setting.least
    by_place = limit.under * slow * setting.fee * setting.crew.greatest_speed
    by_size = limit.under * setting.most * (by - slow)
    return start, by_item, by_place, by_size


def greatest_let(bounds, rest, place):
    """The greatest size from 1 to rest that is let, 0 if there is none."""
    size = rest
    for start, by_item, by_place, by_size in bounds:
        # The items behind the chunk are the rest without it.
        most = (start + by_item * rest - by_place * place) // (by_size + by_item)
        if most < size:
            size = most
    return max(0, size)


def greatest_ahead(bounds, left, place):
    """The greatest size that is let with so many items behind it, 0 if there is none.

    If all sizes are let, one just above all sizes of chunks is told.
    """
    size = GREATEST_SIZE + 1
    for start, by_item, by_place, by_size in bounds:
        room = start + by_item * left - by_place * place
        if room < by_size:
            return 0
        if size * by_size > room:
            size = room // by_size
    return size
