"""Bad places of a lot, and the kinds of roads by which a rule can go where there are none (4)."""

from hourcards.cards import check_lot_and_sort, is_sort
from hourcards.checks import is_integer
from hourcards.errors import NoSort
from hourcards.webs import is_lot, next_roads


def bad_places(web, lot, sort):
    """The ascending list of all bad places."""
    check_lot_and_sort(web, lot, sort)
    after = all_next(web)
    return sorted(forks(after, lot, sort) + rows(after, lot, sort))


def all_next(web):
    """The list of the next roads of each road."""
    return [next_roads(web, road) for road in range(len(web.roads))]


def forks(after, lot, sort):
    """The list of the bad places that are forks."""
    found = []
    for first, roads in enumerate(after):
        if first not in lot and len(roads) > 1:
            found += [("fork", first, last) for last in roads if is_bad_end(after, lot, sort, last)]
    return found


def rows(after, lot, sort):
    """The list of the bad places that are rows."""
    found = []
    for first, roads in enumerate(after):
        for middle in roads:
            if first not in lot and middle not in lot:
                found += [("row", first, middle, last) for last in after[middle] if is_bad_end(after, lot, sort, last)]
    return found


def is_bad_end(after, lot, sort, road):
    """Whether a bad place may end with the road."""
    return len(after[road]) > 0 and (sort == "turns" or road not in lot)


def is_bad_place(web, lot, sort, thing):
    """Whether it is a bad place, with integers that are no flags."""
    # A flag is equal to an integer, so a look into the list would let it pass.
    return (isinstance(thing, tuple) and len(thing) > 0 and isinstance(thing[0], str)
            and all([is_integer(road) for road in thing[1:]]) and thing in bad_places(web, lot, sort))


def is_enough(web, sort, lot):
    """Whether it is a lot without bad places."""
    if not is_sort(sort):
        raise NoSort()
    return is_lot(web, lot) and len(bad_places(web, lot, sort)) == 0


def kinds(web, lot, sort):
    """The tuple of the kinds of all roads, or None if there are none."""
    check_lot_and_sort(web, lot, sort)
    after = all_next(web)
    found = [kind_of(after, lot, sort, road) for road in range(len(web.roads))]
    for road, kind in enumerate(found):
        if kind in ("queue", "first") and len(after[road]) != 1:
            return None
        if kind == "first" and found[after[road][0]] != "second":
            return None
    return tuple(found)


def kind_of(after, lot, sort, road):
    """The kind of a road, whether there are kinds or not."""
    if road in lot:
        return "told"
    if len(after[road]) == 0:
        return "end"
    going_on = [number for number in after[road] if len(after[number]) > 0]
    if sort == "turns" and any([number in lot for number in going_on]):
        return "queue"
    if any([number not in lot for number in going_on]):
        return "first"
    return "second"


def is_kinds(web, lot, sort, thing):
    """Whether it is the kinds."""
    found = kinds(web, lot, sort)
    return (found is not None and isinstance(thing, tuple) and all([isinstance(kind, str) for kind in thing])
            and thing == found)
