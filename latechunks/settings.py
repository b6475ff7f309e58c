"""Settings of loops, and how late one chunk can be."""

from latechunks.bounds import bounds_of, greatest_let
from latechunks.checks import is_integer, is_within
from latechunks.crews import Crew, read_speeds
from latechunks.errors import BadChunks, BadCost, BadFee, BadLimit, BadRest, BadSetting, BadSize
from latechunks.ratios import Ratio, is_number
from latechunks.words import Reader

GREATEST_COST = 60
GREATEST_FEE = 10 ** 30


class Setting:
    """A crew, the least and the greatest cost of an item, and the fee of a taking; it never changes."""

    def __init__(self, crew, least=1, most=1, fee=0):
        if not isinstance(crew, Crew):
            raise BadSetting("crew")
        if not is_within(least, 1, GREATEST_COST):
            raise BadCost(least)
        if not is_within(most, least, GREATEST_COST):
            raise BadCost(most)
        if not is_within(fee, 0, GREATEST_FEE):
            raise BadFee(fee)
        self.crew = crew
        self.least = least
        self.most = most
        self.fee = fee
        self.lowest = self.late_of(1, 0, 1)

    @classmethod
    def read(cls, text):
        """The Setting of which str tells this text."""
        reader = Reader(text)
        speeds, least, most, fee = read_setting(reader)
        reader.finish()
        return cls(Crew.of(speeds), least, most, fee)

    def late_of(self, rest, place, size):
        """How late a chunk of this size can be, with rest items from it on, and place chunks ahead of it."""
        check_spot(rest, place)
        if not is_within(size, 1, rest):
            raise BadSize(size)
        slow = self.crew.least_speed
        fast = self.crew.greatest_speed
        ahead = place * self.fee * fast - self.most * size - self.least * (rest - size)
        by = self.crew.speed if ahead <= 0 else fast
        return Ratio((self.fee * slow + self.most * size) * by + ahead * slow, slow * by)

    def let(self, rest, place, limit):
        """The greatest size from 1 to rest that is at most as late as the limit, 0 if there is none."""
        check_spot(rest, place)
        check_limit(limit)
        return greatest_let(bounds_of(self, limit), rest, place)

    def straight(self):
        """The pair of two Ratios x, y such that late is always x * size - y * rest."""
        if self.fee > 0:
            raise BadSetting("fee")
        speed = self.crew.speed
        rise = Ratio(self.most, self.crew.least_speed) - Ratio(self.most - self.least, speed)
        return rise, Ratio(self.least, speed)

    def with_crew(self, crew):
        """The setting with another crew."""
        return Setting(crew, self.least, self.most, self.fee)

    def with_costs(self, least, most):
        """The setting with other costs of an item."""
        return Setting(self.crew, least, most, self.fee)

    def with_fee(self, fee):
        """The setting with another fee."""
        return Setting(self.crew, self.least, self.most, fee)

    def __le__(self, other):
        if not isinstance(other, Setting):
            raise BadSetting("other")
        costs_within = other.least <= self.least and self.most <= other.most
        return self.crew <= other.crew and costs_within and self.fee <= other.fee

    def __lt__(self, other):
        return self <= other and not self == other

    def __eq__(self, other):
        return (isinstance(other, Setting) and self.crew == other.crew and self.least == other.least
                and self.most == other.most and self.fee == other.fee)

    def __str__(self):
        return f"{self.crew} / {self.least} {self.most} / {self.fee}"


def read_setting(reader):
    """What the words of a setting tell: the speeds of its crew, the two costs and the fee."""
    speeds = read_speeds(reader)
    reader.expect("/")
    least, most = read_costs(reader)
    reader.expect("/")
    return speeds, least, most, read_fee(reader)


def read_costs(reader):
    """The least and the greatest cost of an item."""
    least = reader.integer(1, GREATEST_COST)
    return least, reader.integer(least, GREATEST_COST)


def read_fee(reader):
    """The fee of a taking."""
    return reader.integer(0, GREATEST_FEE)


def check_spot(rest, place):
    """A rest is an integer from 1 on, and a place one from 0 on."""
    if not is_integer(rest) or rest < 1:
        raise BadRest(rest)
    if not is_integer(place) or place < 0:
        raise BadChunks("place")


def check_setting(setting):
    """A setting is a Setting."""
    if not isinstance(setting, Setting):
        raise BadSetting("setting")


def check_unpaid(setting):
    """A setting is a Setting without a fee."""
    check_setting(setting)
    if setting.fee > 0:
        raise BadSetting("fee")


def check_limit(limit):
    """A limit is a number."""
    if not is_number(limit):
        raise BadLimit(limit)
