"""Late of many chunks at once, in integers: late times a unit of the setting."""

from latechunks.ratios import Ratio


def unit_of(setting):
    """The unit of a setting: late of each chunk times this is an integer, its worth."""
    crew = setting.crew
    return crew.least_speed * crew.greatest_speed * crew.speed


def straight_worths(setting):
    """The pair of two integers x, y such that without a fee a worth is always x * size - y * rest."""
    by_size, by_rest = setting.straight()
    unit = unit_of(setting)
    return (by_size * unit).over, (by_rest * unit).over


def worths_of(chunks, setting):
    """The list of the worths of all chunks, in order."""
    if setting.fee > 0:
        return paid_worths(chunks, setting)
    by_size, by_rest = straight_worths(setting)
    return [by_size * size - by_rest * rest for size, rest in zip(chunks.sizes, chunks.rests)]


def paid_worths(chunks, setting):
    """The list of the worths of all chunks with a fee, by the main statement of the document."""
    crew = setting.crew
    base = setting.fee * unit_of(setting)
    by_size = setting.most * crew.greatest_speed * crew.speed
    by_place = setting.fee * crew.greatest_speed
    early = crew.least_speed * crew.greatest_speed
    behind = crew.least_speed * crew.speed
    worths = []
    for place, (size, rest) in enumerate(zip(chunks.sizes, chunks.rests)):
        ahead = by_place * place - setting.most * size - setting.least * (rest - size)
        worths.append(base + by_size * size + ahead * (early if ahead <= 0 else behind))
    return worths


def greatest_worth(chunks, setting):
    """The greatest worth of a chunk of a list, which has one."""
    return max([int(worth) for worth in worths_of(chunks, setting)])


def late_for(worth, setting):
    """Late of a chunk that has this worth."""
    return Ratio(worth, unit_of(setting))
