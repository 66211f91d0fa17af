"""Webs: houses, and the roads between them; ways along the roads, and lots of roads (part 1)."""

from hourcards.checks import are_between, is_between
from hourcards.errors import BadWeb, NoRoad

MOST_HOUSES = 12
MOST_ROADS = 24
MOST_ROOMS = 3
LONGEST_TIME = 3
LONGEST_WAY = 8


class Web:
    """Houses, with roads that pass so many letters a tick; a letter is so many ticks later at the next road."""

    def __init__(self, houses, roads, rooms, times):
        if not is_between(2, MOST_HOUSES, houses):
            raise BadWeb("houses")
        if not are_roads(houses, roads):
            raise BadWeb("roads")
        if not are_between(len(roads), 1, MOST_ROOMS, rooms):
            raise BadWeb("rooms")
        if not are_between(len(roads), 1, LONGEST_TIME, times):
            raise BadWeb("times")
        self.houses = houses
        self.roads = roads
        self.rooms = rooms
        self.times = times

    def __eq__(self, other):
        return (isinstance(other, Web) and self.houses == other.houses and self.roads == other.roads
                and self.rooms == other.rooms and self.times == other.times)


def web_of_any_size(houses, roads, rooms, times):
    """The web of these, that are right but for their sizes."""
    # A web that is returned may have more houses and roads than Web lets in from outside.
    web = Web(2, ((0, 1),), (1,), (1,))
    web.houses = houses
    web.roads = roads
    web.rooms = rooms
    web.times = times
    return web


def are_roads(houses, thing):
    """Whether it is the roads of a web with so many houses."""
    return (isinstance(thing, tuple) and 1 <= len(thing) <= MOST_ROADS
            and all([is_begin_and_end(houses, road) for road in thing]))


def is_begin_and_end(houses, thing):
    """Whether it is a pair of two unlike houses."""
    return are_between(2, 0, houses - 1, thing) and thing[0] != thing[1]


def is_road(web, thing):
    """Whether it is the number of a road."""
    return is_between(0, len(web.roads) - 1, thing)


def next_roads(web, road):
    """The ascending tuple of the roads that begin where this one ends."""
    if not is_road(web, road):
        raise NoRoad()
    end = web.roads[road][1]
    return tuple([number for number, (begin, _) in enumerate(web.roads) if begin == end])


def is_way(web, thing):
    """Whether it is a tuple of roads, not too many, each but the first next to the one ahead of it."""
    return (isinstance(thing, tuple) and 1 <= len(thing) <= LONGEST_WAY
            and all([is_road(web, road) for road in thing])
            and all([web.roads[road][1] == web.roads[after][0] for road, after in zip(thing, thing[1:])]))


def is_lot(web, thing):
    """Whether it is an ascending tuple of unlike numbers of roads."""
    return (isinstance(thing, tuple) and all([is_road(web, road) for road in thing])
            and all([road < after for road, after in zip(thing, thing[1:])]))
