"""Floors: trees that show that no lot that is enough costs less than a bound (11.3)."""

from hourcards.cards import is_sort
from hourcards.checks import is_integer, is_tuple
from hourcards.errors import NoNumber, NoPrices, NoSort
from hourcards.kinds import bad_places
from hourcards.lots import are_prices, best_lot, healers, least_needs, mask, roads_in
from hourcards.webs import is_road

MOST_TRIED = 24


def floor(web, sort, prices):
    """A floor for the least price of a lot that is enough."""
    if not is_sort(sort):
        raise NoSort()
    if not are_prices(web, prices):
        raise NoPrices()
    search = Search(web, sort, prices)
    # The nodes as they are met from the root on: an apart node, or the road of a split, whose told tree comes first.
    nodes = []
    ways = [(0, 0)]
    while ways:
        told, silent = ways.pop()
        left = search.left(told, silent)
        worth, places = search.apart(told, left)
        if worth >= search.bound:
            nodes.append(("apart", places))
        else:
            road = search.best_split(told, silent, left)
            nodes.append(road)
            ways.append((told, silent | 1 << road))
            ways.append((told | 1 << road, silent))
    return tree_of(nodes)


def tree_of(nodes):
    """The tree of these nodes, each one ahead of its own trees."""
    trees = []
    for node in reversed(nodes):
        if isinstance(node, tuple):
            trees.append(node)
        else:
            told = trees.pop()
            silent = trees.pop()
            trees.append(("split", node, told, silent))
    return trees[0]


class Search:
    """What is worth how much on the way to a node; roads that are told or silent there are told by masks."""

    def __init__(self, web, sort, prices):
        self.prices = prices
        self.bound = best_lot(web, sort, prices)[0]
        # A place whose healers are among those of another one is worth as much at least, and in the way of fewer.
        self.needs = [(mask(need), place) for need, place in least_needs(web, sort).items()]

    def left(self, told, silent):
        """The dict from the masks of healers that are not silent to a place that has just these, and no told one."""
        return {need & ~silent: place for need, place in self.needs if not need & told}

    def apart(self, told, left):
        """The pair of the worth of an apart node and its places, as good as is found."""
        if 0 in left:
            return self.bound, (left[0],)
        weights = {need: least_price(self.prices, need) for need in left}
        # Six times the worth for each of one, two or three roads, that stays an integer.
        dear = sorted([(-6 * weights[need] // len(roads_in(need)), need) for need in left])
        orders = [[need for _, need in dear], sorted(left)]
        best = max([chosen_apart(weights, order) for order in orders])
        return price_of(self.prices, told) + best[0], tuple([left[need] for need in best[1]])

    def best_split(self, told, silent, left):
        """The road at which the two trees behind a split are worth most, of those that are likely."""
        before, _ = self.apart(told, left)
        best = (0, None)
        for road in self.likely(left):
            bit = 1 << road
            gains = 1
            for way in ((told | bit, silent), (told, silent | bit)):
                worth, _ = self.apart(way[0], self.left(way[0], way[1]))
                gains *= max(0, min(worth, self.bound) - before) + 1
            if gains > best[0]:
                best = (gains, road)
        return best[1]

    def likely(self, left):
        """The list of the roads that are healers, those first that heal most and cost most."""
        heals = {}
        for need in left:
            for road in roads_in(need):
                heals[road] = heals.get(road, 0) + 1
        dear = sorted([(-many * self.prices[road], road) for road, many in heals.items()])
        # On long lines it would take long to try all.
        return [road for _, road in dear[:MOST_TRIED]]


def price_of(prices, roads):
    """The sum of the prices of the roads in the mask."""
    return sum([prices[road] for road in roads_in(roads)])


def least_price(prices, roads):
    """The least price of the roads in the mask."""
    return min([prices[road] for road in roads_in(roads)])


def chosen_apart(weights, order):
    """The pair of a worth and the masks that are chosen, each one that shares no road with those ahead of it."""
    used = 0
    chosen = []
    for need in order:
        if not need & used:
            used = used | need
            chosen.append(need)
    return sum([weights[need] for need in chosen]), chosen


def is_floor(web, sort, prices, bound, thing):
    """Whether it is a floor for the bound."""
    if not is_sort(sort):
        raise NoSort()
    if not are_prices(web, prices):
        raise NoPrices()
    if not is_integer(bound):
        raise NoNumber()
    needs = {place: mask(healers(sort, place)) for place in bad_places(web, (), sort)}
    nodes = [(thing, 0, 0)]
    while nodes:
        node, told, silent = nodes.pop()
        if is_split(web, node, told | silent):
            bit = 1 << node[1]
            nodes.append((node[2], told | bit, silent))
            nodes.append((node[3], told, silent | bit))
        elif not is_apart(needs, node):
            return False
        elif not is_worth(prices, [needs[place] for place in node[1]], told, silent, bound):
            return False
    return True


def is_split(web, thing, decided):
    """Whether it is a split of a road that is not yet told or silent."""
    return is_tuple(4, thing) and is_word("split", thing[0]) and is_road(web, thing[1]) and not decided >> thing[1] & 1


def is_apart(needs, thing):
    """Whether it is an apart node with a tuple of bad places."""
    return (is_tuple(2, thing) and is_word("apart", thing[0]) and isinstance(thing[1], tuple)
            and all([is_known(needs, place) for place in thing[1]]))


def is_word(word, thing):
    """Whether it is this string."""
    return isinstance(thing, str) and thing == word


def is_known(needs, thing):
    """Whether it is one of the bad places, with integers that are no flags."""
    return (isinstance(thing, tuple) and len(thing) > 0 and isinstance(thing[0], str)
            and all([is_integer(road) for road in thing[1:]]) and thing in needs)


def is_worth(prices, needs, told, silent, bound):
    """Whether places with these healers may stand apart, and are worth the bound on this way."""
    worth = price_of(prices, told)
    used = 0
    for need in needs:
        left = need & ~silent
        if need & told or left & used:
            return False
        used = used | left
        # What has no healer but silent ones is worth as much as one likes.
        worth += least_price(prices, left) if left else max(0, bound)
    return worth >= bound
