"""Lots that are enough: the least ones, how many there are, and the cheapest one (11.1, 11.2)."""

from hourcards.cards import is_sort
from hourcards.checks import are_between
from hourcards.errors import NoPrices, NoSort, TooMany
from hourcards.kinds import bad_places

MOST_LOTS = 300
GREATEST_PRICE = 99


def healers(sort, place):
    """The ascending tuple of the roads of which one must be told that the bad place be none."""
    # For turns a bad place is one whether its last road is told or not.
    return tuple(sorted(set(place[1:-1] if sort == "turns" else place[1:])))


def least_needs(web, sort):
    """The dict from tuples of roads, of each of which a lot that is enough has one, to a bad place healed by just them.

    Tuples that contain all roads of another one are left out.
    """
    found = {}
    for place in bad_places(web, (), sort):
        found.setdefault(healers(sort, place), place)
    # A tuple has three roads at most, so what it may contain is looked up and not sought.
    return {need: place for need, place in found.items() if not any([less in found for less in parts(need)])}


def parts(need):
    """The list of the tuples of roads that lack just some of the need's roads."""
    found = []
    for road in need:
        less = tuple([other for other in need if other != road])
        found.append(less)
        found += [(other,) for other in less if len(less) > 1]
    return found


def mask(roads):
    """The integer that has a bit for each of these roads."""
    return sum([1 << road for road in roads])


def roads_in(roads):
    """The ascending list of the roads that have a bit in the mask."""
    return [road for road in range(roads.bit_length()) if roads >> road & 1]


class Choices:
    """All ways to make each road of a web, one after the other, a told or a silent one of a lot that is enough.

    A state, behind some roads, is a pair: the mask of the roads further on that must be told, and the ascending tuple
    of the masks of two roads further on of which one must be told. steps has for each road a dict from the states
    ahead of it to the pairs of the states behind it, if it is told and if it is silent (None where it cannot be).
    """

    # Needs that have only roads further on are the same in all states, and stand in none of them.

    def __init__(self, web, sort):
        self.begun = [[] for _ in web.roads]
        self.steps = []
        must = 0
        for need in least_needs(web, sort):
            if len(need) == 1:
                must += mask(need)
            else:
                self.begun[need[0]].append(mask(need[1:]))
        self.first = (must, ())
        states = [self.first]
        for road in range(len(web.roads)):
            step = {state: (told_state(state, road), self.silent_state(state, road)) for state in states}
            self.steps.append(step)
            behind = {}
            for told, silent in step.values():
                behind[told] = True
                if silent is not None:
                    behind[silent] = True
            states = list(behind)

    def silent_state(self, state, road):
        """The state behind this one if the road is silent, or None if it must be told."""
        must, either = state
        bit = 1 << road
        if must & bit:
            return None
        left = [pair & ~bit for pair in either] + self.begun[road]
        for roads in left:
            if is_one(roads):
                must = must | roads
        return must, tuple(sorted([roads for roads in left if not roads & must]))


def told_state(state, road):
    """The state behind this one if the road is told."""
    must, either = state
    bit = 1 << road
    return must & ~bit, tuple([pair for pair in either if not pair & bit])


def is_one(roads):
    """Whether the mask is that of one road at most."""
    return roads & (roads - 1) == 0


def many_enough(web, sort):
    """The number of all lots that are enough."""
    if not is_sort(sort):
        raise NoSort()
    choices = Choices(web, sort)
    many = {(0, ()): 1}
    for step in reversed(choices.steps):
        many = {state: many[told] + (0 if silent is None else many[silent]) for state, (told, silent) in step.items()}
    return many[choices.first]


def least_size(web, sort):
    """The least number of roads of a lot that is enough."""
    if not is_sort(sort):
        raise NoSort()
    return best_lot(web, sort, [1 for _ in web.roads])[0]


def cheapest_lot(web, sort, prices):
    """The pair of the least price of a lot that is enough, and the least such lot."""
    if not is_sort(sort):
        raise NoSort()
    if not are_prices(web, prices):
        raise NoPrices()
    return best_lot(web, sort, prices)


def are_prices(web, thing):
    """Whether it is a tuple with a price for each road."""
    return are_between(len(web.roads), 0, GREATEST_PRICE, thing)


def best_lot(web, sort, prices):
    """The pair of the least price of a lot that is enough, and the least such lot, for what is a sort and prices."""
    choices = Choices(web, sort)
    best = {(0, ()): (0, ())}
    # From the last road on, as a lot that begins a longer one is less, whatever both have ahead of that.
    for road in reversed(range(len(web.roads))):
        ahead = {}
        for state, (told, silent) in choices.steps[road].items():
            price, lot = best[told]
            found = [(price + prices[road], (road,) + lot)]
            if silent is not None:
                found.append(best[silent])
            ahead[state] = min(found)
        best = ahead
    return best[choices.first]


def least_lots(web, sort):
    """The ascending list of all lots that are enough and of which no road can be left out."""
    if not is_sort(sort):
        raise NoSort()
    needs = sorted([mask(need) for need in least_needs(web, sort)])
    found = []
    # Pairs of the masks of the roads that are told and of those that are silent; all roads are one or the other once.
    nodes = [(0, 0)]
    while nodes:
        told, silent = nodes.pop()
        lacking = [need for need in needs if not need & told]
        if lacking:
            nodes += [node for node in tellings(lacking[0], told, silent) if is_of_use(needs, node[0])]
        elif len(found) == MOST_LOTS:
            raise TooMany(MOST_LOTS)
        else:
            found.append(tuple(roads_in(told)))
    return sorted(found)


def tellings(need, told, silent):
    """The list of the pairs behind these masks in which one road of the need is told, and those ahead of it silent."""
    found = []
    rest = need & ~silent
    while rest:
        road = rest & -rest
        found.append((told | road, silent | need & (road - 1)))
        rest -= road
    return found


def is_of_use(needs, told):
    """Whether each of the told roads is the only one in some need, so that it cannot be left out."""
    alone = 0
    for need in needs:
        met = need & told
        if is_one(met):
            alone = alone | met
    return alone == told
