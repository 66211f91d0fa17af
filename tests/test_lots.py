"""Least lots and cheapest ones (11.1, 11.2)."""

import itertools
import random
import unittest

from hourcards import lots as module
from hourcards.errors import NoPrices, NoSort, TooMany
from hourcards.kinds import is_enough
from hourcards.lots import cheapest_lot, least_lots, least_size, many_enough
from hourcards.webs import Web
from tests.drawn import drawn_web
from tests.samples import BACK, FORK, FOUR, LARGE, LINE, ODD, RING, name_of, nested
from tests.test_cards import NO_SORTS

SORTS = ("hours", "turns")
PARTING = Web(4, ((0, 1), (1, 2), (1, 3)), (1,) * 3, (1,) * 3)
# Webs with 4, 5, 15 and 16 least lots for hours.
PARTS = {
    4: (3, ((1, 2), (0, 2), (0, 2), (2, 1), (1, 0), (2, 0))),
    5: (4, ((1, 3), (1, 3), (2, 0), (0, 1), (3, 2))),
    15: (5, ((0, 3), (2, 0), (2, 4), (1, 4), (3, 1), (4, 2), (3, 0), (0, 1), (4, 3), (1, 2), (2, 3))),
    16: (5, ((0, 1), (4, 0), (4, 1), (2, 1), (4, 0), (3, 2), (4, 3), (0, 2), (0, 1), (0, 4), (4, 2), (1, 3))),
}
NO_PRICES = [
    [], (), {}, 0, [1, 1, 1], (1, 1), (1, 1, 1, 1), (1, 1, 100), (-1, 1, 1), (1, 1, 10 ** 39), (True, 1, 1), (1, False, 1),
    (1, None, 1), (1, "1", 1), "111", b"\x01\x01\x01", (1, (1,), 1), ((1, 1, 1),), {0: 1, 1: 1, 2: 1}, (1, 1, LINE),
    (1, nested(tuple, 39), 1), (1, b"1", 1),
]


def plain_web(houses, roads):
    return Web(houses, tuple(roads), (1,) * len(roads), (1,) * len(roads))


def joined(*numbers):
    """The web of several of the parts side by side, and for each the pair of its web and its first road."""
    houses, roads, found = 0, [], []
    for number in numbers:
        many, pairs = PARTS[number]
        found.append((plain_web(many, pairs), len(roads)))
        roads += [(begin + houses, end + houses) for begin, end in pairs]
        houses += many
    return plain_web(houses, roads), found


def enough_lots(web, sort):
    """All lots without a bad place, as 4.1 names these."""
    roads = range(len(web.roads))
    after = [[b for b in roads if web.roads[a][1] == web.roads[b][0]] for a in roads]
    found = []
    for lot in itertools.chain.from_iterable([itertools.combinations(roads, many) for many in range(len(roads) + 1)]):
        silent = [road not in lot for road in roads]
        ends = [bool(after[b]) and (silent[b] or sort == "turns") for b in roads]
        forks = [(a, b) for a in roads if silent[a] and len(after[a]) > 1 for b in after[a] if ends[b]]
        rows = [(a, m, b) for a in roads if silent[a] for m in after[a] if silent[m] for b in after[m] if ends[b]]
        if not forks and not rows:
            found.append(lot)
    return found


def least_of(lots):
    """Those of which no road can be left out."""
    known = set(lots)
    return sorted([lot for lot in lots if not [road for road in lot
                                               if tuple([other for other in lot if other != road]) in known]])


# A table is an integer with a bit for each set of roads, the set itself being a number with a bit for each road.

def told_tables(roads):
    """For each road the table of the sets that have it."""
    tables = []
    for road in range(roads):
        table, many = ((1 << (1 << road)) - 1) << (1 << road), 2 << road
        while many < 1 << roads:
            table |= table << many
            many *= 2
        tables.append(table)
    return tables


def enough_table(web, sort):
    """The table of all lots without a bad place, as 4.1 names these."""
    roads = range(len(web.roads))
    told = told_tables(len(roads))
    after = [[b for b in roads if web.roads[a][1] == web.roads[b][0]] for a in roads]
    table = (1 << (1 << len(roads))) - 1
    for a in roads:
        for m in after[a]:
            if after[m] and len(after[a]) > 1:
                table &= told[a] | (told[m] if sort == "hours" else 0)
            for b in after[m]:
                if after[b]:
                    table &= told[a] | told[m] | (told[b] if sort == "hours" else 0)
    return table


def least_in_table(table, roads):
    """The table of those of which no road can be left out."""
    least = table
    for road, told in enumerate(told_tables(roads)):
        least &= ~(told & table << (1 << road))
    return least


def lots_in(table):
    """The lots of a table."""
    found = []
    for number, bit in enumerate(reversed(bin(table)[2:])):
        if bit == "1":
            found.append(tuple([road for road in range(number.bit_length()) if number >> road & 1]))
    return found


def twelve_web(rng):
    """A web of twelve houses and 24 roads."""
    pairs = []
    for number in range(24):
        begin = number // 2 if rng.random() < 0.5 else rng.randrange(12)
        pairs.append((begin, rng.choice([house for house in range(12) if house != begin])))
    return plain_web(12, pairs)


class LeastLots(unittest.TestCase):

    def test_the_examples(self):
        self.assertEqual(least_lots(FOUR, "hours"), [(0,), (1,), (2,)])
        self.assertEqual(least_lots(FOUR, "turns"), [(0,), (1,)])
        self.assertEqual(cheapest_lot(FOUR, "hours", (5, 2, 3, 1)), (2, (1,)))

    def test_by_hand(self):
        five = plain_web(6, [(k, k + 1) for k in range(5)])
        for web, sort, lots in (
                (LINE, "hours", [()]), (LINE, "turns", [()]), (PARTING, "hours", [()]),
                (five, "hours", [(0, 3), (1,), (2,)]), (five, "turns", [(0, 2), (1,)]), (RING, "hours", [(0,), (1,), (2,)]),
                (RING, "turns", [(0, 1), (0, 2), (1, 2)]), (FORK, "hours", [(0, 1), (2,)]), (FORK, "turns", [(0, 1)])):
            with self.subTest(sort, roads=web.roads):
                self.assertEqual(least_lots(web, sort), lots)

    def test_rows_whose_first_and_last_road_are_the_same(self):
        for sort in SORTS:
            self.assertEqual(least_lots(BACK, sort), [(0,), (1,)])
            self.assertEqual((many_enough(BACK, sort), least_size(BACK, sort)), (3, 1))
            self.assertEqual(cheapest_lot(BACK, sort, (4, 3)), (3, (1,)))

    def test_webs_without_any_bad_place(self):
        for web in (PARTING, LINE, plain_web(2, [(0, 1)]), plain_web(12, [(0, house) for house in range(1, 12)])):
            for sort in SORTS:
                self.assertEqual(least_lots(web, sort), [()])
                self.assertEqual(many_enough(web, sort), 1 << len(web.roads))
                self.assertEqual(least_size(web, sort), 0)
                self.assertEqual(cheapest_lot(web, sort, (7,) * len(web.roads)), (0, ()))

    def test_all_lots_of_drawn_webs(self):
        rng = random.Random(111)
        for number in range(250):
            web = drawn_web(rng, 5, 8)
            for sort in SORTS:
                lots = enough_lots(web, sort)
                with self.subTest(sort, roads=web.roads):
                    self.assertEqual(least_lots(web, sort), least_of(lots))
                    self.assertEqual(many_enough(web, sort), len(lots))
                    self.assertEqual(least_size(web, sort), min([len(lot) for lot in lots]))
                    most = rng.choice([0, 1, 2, 5, 99])
                    prices = tuple([rng.randint(0, most) for _ in web.roads])
                    best = min([(sum([prices[road] for road in lot]), lot) for lot in lots])
                    self.assertEqual(cheapest_lot(web, sort, prices), best)

    def test_crowded_webs(self):
        # All roads between two or three houses, and more of them than one.
        rng = random.Random(112)
        for houses in (2, 3):
            for _ in range(40):
                pairs = [rng.sample(range(houses), 2) for _ in range(8)]
                web = plain_web(houses, [tuple(pair) for pair in pairs])
                for sort in SORTS:
                    lots = enough_lots(web, sort)
                    self.assertEqual(least_lots(web, sort), least_of(lots))
                    self.assertEqual(many_enough(web, sort), len(lots))

    def test_just_three_hundred(self):
        web, parts = joined(4, 5, 15)
        self.assertEqual((web.houses, len(web.roads)), (12, 22))
        lists = [[tuple([road + first for road in lot]) for lot in least_of(enough_lots(part, "hours"))] for part, first in parts]
        self.assertEqual([len(lots) for lots in lists], [4, 5, 15])
        lots = sorted([sum(lots, ()) for lots in itertools.product(*lists)])
        self.assertEqual(least_lots(web, "hours"), lots)
        self.assertEqual(len(lots), 300)
        many = 1
        for part, _ in parts:
            many *= len(enough_lots(part, "hours"))
        self.assertEqual(many_enough(web, "hours"), many)
        self.assertEqual(least_size(web, "hours"), min([len(lot) for lot in lots]))

    def test_more_than_three_hundred(self):
        web, parts = joined(4, 5, 16)
        self.assertEqual([len(least_of(enough_lots(part, "hours"))) for part, _ in parts], [4, 5, 16])
        with self.assertRaises(TooMany) as caught:
            least_lots(web, "hours")
        self.assertEqual(caught.exception.most, 300)
        self.assertEqual(least_size(web, "hours"), sum([least_size(part, "hours") for part, _ in parts]))

    def test_twelve_houses_and_24_roads(self):
        rng = random.Random(113)
        many = {True: 0, False: 0}
        for web in [LARGE] + [twelve_web(rng) for _ in range(12)]:
            for sort in SORTS:
                enough = enough_table(web, sort)
                lots = sorted(lots_in(least_in_table(enough, 24)))
                self.assertEqual(many_enough(web, sort), bin(enough).count("1"))
                self.assertEqual(least_size(web, sort), min([len(lot) for lot in lots]))
                prices = tuple([rng.randint(1, 99) for _ in web.roads])
                best = min([(sum([prices[road] for road in lot]), lot) for lot in lots])
                self.assertEqual(cheapest_lot(web, sort, prices), best)
                many[len(lots) > 300] += 1
                if len(lots) > 300:
                    with self.assertRaises(TooMany):
                        least_lots(web, sort)
                else:
                    self.assertEqual(least_lots(web, sort), lots)
        self.assertGreater(many[True], 0)
        self.assertGreater(many[False], 10)

    def test_the_table_of_all_lots_is_a_look_at_each(self):
        rng = random.Random(114)
        for _ in range(40):
            web = drawn_web(rng, 5, 8)
            for sort in SORTS:
                enough = enough_table(web, sort)
                self.assertEqual(sorted(lots_in(enough)), sorted(enough_lots(web, sort)))
                self.assertEqual(sorted(lots_in(least_in_table(enough, len(web.roads)))), least_of(enough_lots(web, sort)))

    def test_the_list_is_new(self):
        least_lots(FOUR, "hours").append(None)
        self.assertEqual(least_lots(FOUR, "hours"), [(0,), (1,), (2,)])

    def test_rooms_and_times_do_not_matter(self):
        web = Web(5, FOUR.roads, (3, 2, 1, 3), (1, 2, 3, 1))
        for sort in SORTS:
            self.assertEqual(least_lots(web, sort), least_lots(FOUR, sort))
            self.assertEqual(many_enough(web, sort), many_enough(FOUR, sort))

    def test_everything_is_defined_where_the_interface_lists_it(self):
        for name in ("least_lots", "many_enough", "least_size", "cheapest_lot"):
            self.assertEqual(getattr(module, name).__module__, "hourcards.lots")

    def test_no_sort(self):
        large, _ = joined(4, 5, 16)
        for thing in ODD + NO_SORTS:
            if thing != "hours":
                with self.subTest(name_of(thing)):
                    for call in (lambda: least_lots(large, thing), lambda: many_enough(LINE, thing),
                                 lambda: least_size(LINE, thing), lambda: cheapest_lot(LINE, thing, None)):
                        with self.assertRaises(NoSort):
                            call()


class Prices(unittest.TestCase):

    def test_the_least_of_those_that_cost_the_same(self):
        self.assertEqual(cheapest_lot(FOUR, "hours", (3, 2, 2, 0)), (2, (1,)))
        self.assertEqual(cheapest_lot(FOUR, "hours", (2, 2, 2, 2)), (2, (0,)))
        # What costs nothing may stand in the lot, if it is less with it.
        self.assertEqual(cheapest_lot(FOUR, "hours", (0, 0, 0, 0)), (0, (0,)))
        self.assertEqual(cheapest_lot(FOUR, "hours", (5, 5, 0, 0)), (0, (2,)))
        self.assertEqual(cheapest_lot(plain_web(3, [(0, 1), (1, 2)]), "hours", (0, 0)), (0, ()))
        five = plain_web(6, [(k, k + 1) for k in range(5)])
        self.assertEqual(cheapest_lot(five, "hours", (0, 5, 2, 2, 0)), (2, (0, 2)))
        self.assertEqual(cheapest_lot(five, "hours", (0, 5, 2, 0, 0)), (0, (0, 3)))

    def test_the_greatest_prices(self):
        self.assertEqual(cheapest_lot(FOUR, "hours", (99, 99, 99, 99)), (99, (0,)))
        self.assertEqual(cheapest_lot(RING, "turns", (99, 98, 99)), (197, (0, 1)))
        self.assertEqual(cheapest_lot(LARGE, "hours", (99,) * 24)[0], 99 * least_size(LARGE, "hours"))

    def test_no_prices(self):
        for sort in SORTS:
            for thing in ODD + NO_PRICES:
                with self.subTest(name_of(thing)), self.assertRaises(NoPrices):
                    cheapest_lot(LINE, sort, thing)
        with self.assertRaises(NoPrices):
            cheapest_lot(FOUR, "hours", (1, 1, 1))


if __name__ == "__main__":
    unittest.main()
