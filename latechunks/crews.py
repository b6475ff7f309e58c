"""Crews of workers with speeds."""

from latechunks.checks import LETTERS, is_name, is_within
from latechunks.errors import BadCrew, BadName, BadSpeed, NoWorker, TooMany
from latechunks.words import Reader, number_of, read_named

MOST_WORKERS = 8
GREATEST_SPEED = 60


class Crew:
    """Workers, told by their names, with speeds; it never changes."""

    # The object is not called self here: Crew(self=1) has a keyword that is no name, and raises BadName for it.
    def __init__(this_crew, **speeds):
        names = sorted([str(name) for name in speeds])
        check_speeds(names, speeds)
        if not names:
            raise BadCrew("empty")
        if len(names) > MOST_WORKERS:
            raise TooMany("workers", MOST_WORKERS)
        pairs = [(name, speeds[name]) for name in names]
        this_crew.workers = tuple(names)
        this_crew.speed = sum([speed for _, speed in pairs])
        this_crew.least_speed = min([int(speed) for _, speed in pairs])
        this_crew.greatest_speed = max([int(speed) for _, speed in pairs])
        this_crew.slowest = [name for name, speed in pairs if speed == this_crew.least_speed][0]
        this_crew.fastest = [name for name, speed in pairs if speed == this_crew.greatest_speed][0]
        this_crew._pairs = tuple(pairs)
        this_crew._speeds = {name: speed for name, speed in pairs}

    @staticmethod
    def of(speeds):
        """The Crew of a dict from names to speeds."""
        if not isinstance(speeds, dict):
            raise BadCrew("speeds")
        check_speeds(list(speeds), speeds)
        return Crew(**speeds)

    @staticmethod
    def even(many, speed=1):
        """So many workers of one speed, with the names a, b, c and so on."""
        if not is_within(many, 1, MOST_WORKERS):
            raise BadCrew("many")
        return Crew.of({LETTERS[k]: speed for k in range(many)})

    @classmethod
    def read(cls, text):
        """The Crew of which str tells this text."""
        reader = Reader(text)
        speeds = read_speeds(reader)
        reader.finish()
        return cls.of(speeds)

    def __len__(self):
        return len(self.workers)

    def __iter__(self):
        return iter(self._pairs)

    def __contains__(self, x):
        return isinstance(x, str) and x in self._speeds

    def __getitem__(self, at):
        if at not in self:
            raise NoWorker(at)
        return self._speeds[at]

    def __add__(self, other):
        if not isinstance(other, Crew):
            raise BadCrew("other")
        if any([name in other for name in self.workers]):
            raise BadCrew("twice")
        return Crew.of({**self._speeds, **other._speeds})

    def __sub__(self, other):
        if other not in self:
            raise NoWorker(other)
        return Crew.of({name: speed for name, speed in self._pairs if name != other})

    def __mul__(self, other):
        if not is_speed(other):
            raise BadSpeed(other)
        return Crew.of({name: speed * other for name, speed in self._pairs})

    def __rmul__(self, other):
        return self * other

    def __le__(self, other):
        if not isinstance(other, Crew):
            raise BadCrew("other")
        return len(set(self._pairs + other._pairs)) == len(other._pairs)

    def __lt__(self, other):
        return self <= other and not self == other

    def __eq__(self, other):
        return isinstance(other, Crew) and self._pairs == other._pairs

    def __str__(self):
        return " ".join([f"{name} {speed}" for name, speed in self._pairs])

    def with_speed(self, name, speed):
        """The crew with another speed of a worker, or with one worker more."""
        if not is_name(name):
            raise BadName(name)
        return Crew.of({**self._speeds, name: speed})


def is_speed(value):
    """Whether any value is a speed of a worker."""
    return is_within(value, 1, GREATEST_SPEED)


def check_speeds(names, speeds):
    """All names, in this order, are names, and then all their speeds are speeds."""
    for name in names:
        if not is_name(name):
            raise BadName(name)
    for name in names:
        if not is_speed(speeds[name]):
            raise BadSpeed(speeds[name])


def read_speeds(reader):
    """The dict of the speeds of a crew, up to a stroke or the end; no worker more than a crew has can stand."""
    return read_named(reader, lambda word: number_of(word, 1, GREATEST_SPEED), MOST_WORKERS)
