"""The errors of the package. Each is made with just its fields, whatever they are."""


class HourError(ValueError):
    """What all errors of the package derive from."""


class BadWeb(HourError):
    """The part of a web that is not as told: houses, roads, rooms or times."""

    def __init__(self, part):
        self.part = part


class NoRoad(HourError):
    """No number of a road of the web, or none for which there is what is asked."""

    def __init__(self):
        pass


class BadDay(HourError):
    """The part of a day that is not as told, or what is wrong with its hours: early, full."""

    def __init__(self, part):
        self.part = part


class NoTick(HourError):
    """No integer from 1 on."""

    def __init__(self):
        pass


class NoLetters(HourError):
    """No tuple of letters of the web."""

    def __init__(self):
        pass


class NoRanks(HourError):
    """No tuple with an integer for each letter."""

    def __init__(self):
        pass


class NoHolds(HourError):
    """No dict from places of the letters to ticks."""

    def __init__(self):
        pass


class NoNumbers(HourError):
    """No list or tuple of numbers of letters."""

    def __init__(self):
        pass


class NoNumber(HourError):
    """No integer of those that are let."""

    def __init__(self):
        pass


class OtherWeb(HourError):
    """Two days on unlike webs."""

    def __init__(self):
        pass


class NoLot(HourError):
    """No lot of the web."""

    def __init__(self):
        pass


class NoSort(HourError):
    """No sort of cards."""

    def __init__(self):
        pass


class NoHours(HourError):
    """No hours of these letters."""

    def __init__(self):
        pass


class NotEnough(HourError):
    """The first bad place of a lot that is not enough."""

    def __init__(self, place):
        self.place = place


class NoCard(HourError):
    """No card that may come now."""

    def __init__(self):
        pass


class NothingDone(HourError):
    """Nothing is there to be taken back."""

    def __init__(self):
        pass


class NoCards(HourError):
    """No tuple of cards."""

    def __init__(self):
        pass


class NoPlace(HourError):
    """No bad place of the web and the lot."""

    def __init__(self):
        pass


class TooMany(HourError):
    """More than the most that are let."""

    def __init__(self, most):
        self.most = most


class NoHomes(HourError):
    """No tuple with a home hour for each letter."""

    def __init__(self):
        pass


class NoChoice(HourError):
    """A stranger's answer, for a road at a tick, that is no choice."""

    def __init__(self, road, at):
        self.road = road
        self.at = at


class NotPlain(HourError):
    """A web with rooms or times other than 1."""

    def __init__(self):
        pass


class NoPlan(HourError):
    """No plan."""

    def __init__(self):
        pass


class NoGap(HourError):
    """No gap of the plan."""

    def __init__(self):
        pass


class NotRooted(HourError):
    """A web without a root."""

    def __init__(self):
        pass


class NoPrices(HourError):
    """No tuple with a price for each road."""

    def __init__(self):
        pass


class BadText(HourError):
    """The first line of a text that cannot stand there, or 0 for what is no string."""

    def __init__(self, line):
        self.line = line


class NoLine(HourError):
    """No line that the desk knows."""

    def __init__(self):
        pass


class NoName(HourError):
    """A name under which nothing is kept."""

    def __init__(self, name):
        self.name = name
