"""Floors (11.3)."""

import random
import unittest

from hourcards import floors as module
from hourcards.errors import NoNumber, NoPrices, NoSort
from hourcards.floors import floor, is_floor
from hourcards.lots import cheapest_lot
from hourcards.webs import Web
from tests.drawn import drawn_web
from tests.samples import BACK, DAY, FORK, FOUR, LARGE, LINE, ODD, RING, name_of, nested
from tests.test_cards import NO_SORTS
from tests.test_kinds import looked_at
from tests.test_lots import NO_PRICES, SORTS, enough_lots, plain_web, twelve_web

NOTHING = ("apart", ())
ROW = ("row", 0, 1, 2)
# Two rows for hours, of three roads each.
FIVE = plain_web(6, [(k, k + 1) for k in range(5)])
NEXT_ROW = ("row", 1, 2, 3)
# Seven roads in a row: rows from 0 to 3.
SEVEN = plain_web(8, [(k, k + 1) for k in range(7)])


def line(begin):
    return ("row", begin, begin + 1, begin + 2)


class Wrong(Exception):
    pass


def worth_of(web, sort, prices, tree, told=(), silent=()):
    """The least worth of the apart nodes, None if all are worth as much as one likes; Wrong if it is no floor at all."""
    if not isinstance(tree, tuple) or not tree or type(tree[0]) is not str:
        raise Wrong()
    if tree[0] == "split":
        if len(tree) != 4 or type(tree[1]) is not int or tree[1] not in range(len(web.roads)) or tree[1] in told + silent:
            raise Wrong()
        found = [worth_of(web, sort, prices, tree[2], told + (tree[1],), silent),
                 worth_of(web, sort, prices, tree[3], told, silent + (tree[1],))]
        return min([worth for worth in found if worth is not None], default=None)
    if tree[0] != "apart" or len(tree) != 2 or not isinstance(tree[1], tuple):
        raise Wrong()
    worth, endless, used = sum([prices[road] for road in told]), False, []
    bad = looked_at(web, (), sort)
    for place in tree[1]:
        if not isinstance(place, tuple) or [type(part) for part in place[1:]] != [int] * (len(place) - 1) or place not in bad:
            raise Wrong()
        healers = set(place[1:]) if sort == "hours" else set(place[1:-1])
        left = [road for road in healers if road not in silent]
        if set(told) & healers or set(used) & set(left):
            raise Wrong()
        used += left
        if left:
            worth += min([prices[road] for road in left])
        else:
            endless = True
    return None if endless else worth


def judged(web, sort, prices, bound, tree):
    try:
        worth = worth_of(web, sort, prices, tree)
    except Wrong:
        return False
    return worth is None or worth >= bound


class Floors(unittest.TestCase):

    def check(self, web, sort, prices):
        price = cheapest_lot(web, sort, prices)[0]
        tree = floor(web, sort, prices)
        self.assertTrue(judged(web, sort, prices, price, tree))
        # As the lot costs no more, there is none for more.
        self.assertFalse(judged(web, sort, prices, price + 1, tree))
        for bound, right in ((price, True), (price - 1, True), (price + 1, False), (-1, True), (-10 ** 39, True),
                             (10 ** 39, False)):
            self.assertIs(is_floor(web, sort, prices, bound, tree), right)

    def test_by_hand(self):
        for web, sort in ((FOUR, "hours"), (FOUR, "turns"), (RING, "hours"), (RING, "turns"), (BACK, "hours"), (BACK, "turns"),
                          (FORK, "hours"), (FORK, "turns"), (FIVE, "hours"), (LINE, "hours")):
            for price in (0, 1, 99):
                self.check(web, sort, (price,) * len(web.roads))

    def test_a_web_without_any_bad_place(self):
        for sort in SORTS:
            self.check(LINE, sort, (99, 0, 5))
            self.assertIs(is_floor(LINE, sort, (9, 9, 9), 0, NOTHING), True)
            self.assertIs(is_floor(LINE, sort, (9, 9, 9), 1, NOTHING), False)
            # What is told is paid for, and what is silent is not; but there is a lot without it.
            self.assertIs(is_floor(LINE, sort, (9, 9, 9), 1, ("split", 1, NOTHING, NOTHING)), False)

    def test_drawn_webs(self):
        rng = random.Random(115)
        for _ in range(250):
            web = drawn_web(rng, 5, 8)
            for sort in SORTS:
                most = rng.choice([0, 1, 3, 99])
                self.check(web, sort, tuple([rng.randint(0, most) for _ in web.roads]))

    def test_twelve_houses_and_24_roads(self):
        rng = random.Random(116)
        for web in [LARGE] + [twelve_web(rng) for _ in range(8)]:
            for sort in SORTS:
                for prices in ((1,) * 24, tuple([rng.randint(0, 99) for _ in range(24)]),
                               tuple([rng.choice([0, 1, 2, 99]) for _ in range(24)])):
                    self.check(web, sort, prices)

    def test_many_splits(self):
        # The roads 0 to 2 and 4 to 6 have to be split each for themselves: places apart are worth just 1 there, and not 2.
        web = plain_web(12, [(k, k + 1) for k in range(11)])
        prices = (1, 2, 1, 0, 1, 2, 1, 0, 0, 0, 0)
        self.assertEqual(cheapest_lot(web, "turns", prices)[0], 4)
        self.check(web, "turns", prices)
        self.assertGreaterEqual(str(floor(web, "turns", prices)).count("split"), 3)

    def test_equal_calls_give_equal_answers(self):
        self.assertEqual(floor(RING, "turns", (1, 2, 3)), floor(RING, "turns", (1, 2, 3)))

    def test_everything_is_defined_where_the_interface_lists_it(self):
        for name in ("floor", "is_floor"):
            self.assertEqual(getattr(module, name).__module__, "hourcards.floors")

    def test_no_sort_then_no_prices(self):
        for thing in ODD + NO_SORTS:
            if thing != "hours":
                with self.subTest(name_of(thing)), self.assertRaises(NoSort):
                    floor(LINE, thing, None)
        for thing in ODD + NO_PRICES:
            with self.subTest(name_of(thing)), self.assertRaises(NoPrices):
                floor(LINE, "hours", thing)


class IsFloor(unittest.TestCase):

    def check(self, right, web, sort, prices, bound, tree):
        self.assertIs(judged(web, sort, prices, bound, tree), right, tree)
        self.assertIs(is_floor(web, sort, prices, bound, tree), right, tree)

    def test_apart_nodes(self):
        prices = (5, 2, 3, 1, 9)
        self.check(True, FIVE, "hours", prices, 2, ("apart", (ROW,)))
        self.check(False, FIVE, "hours", prices, 3, ("apart", (ROW,)))
        self.check(True, FIVE, "hours", prices, 1, ("apart", (NEXT_ROW,)))
        self.check(False, FIVE, "hours", prices, 2, ("apart", (NEXT_ROW,)))
        self.check(True, FIVE, "hours", prices, 0, NOTHING)
        self.check(False, FIVE, "hours", prices, 1, NOTHING)
        # The last road of a row is no healer for turns.
        self.check(True, FIVE, "turns", (5, 2, 1, 1, 9), 2, ("apart", (ROW,)))
        self.check(False, FIVE, "hours", (5, 2, 1, 1, 9), 2, ("apart", (ROW,)))

    def test_places_apart(self):
        prices = (4, 3, 5, 2, 6, 7, 1)
        self.check(True, SEVEN, "hours", prices, 5, ("apart", (line(0), line(3))))
        self.check(True, SEVEN, "hours", prices, 5, ("apart", (line(3), line(0))))
        self.check(False, SEVEN, "hours", prices, 6, ("apart", (line(0), line(3))))
        self.check(True, SEVEN, "turns", prices, 5, ("apart", (line(0), line(2))))
        self.check(True, SEVEN, "turns", prices, 5, ("apart", (line(0), line(3))))

    def test_places_that_share_a_healer(self):
        prices = (4, 3, 5, 2, 6, 7, 1)
        for places in ((line(0), line(1)), (line(0), line(2)), (line(2), line(0)), (line(0), line(3), line(1))):
            self.check(False, SEVEN, "hours", prices, -10 ** 39, ("apart", places))
        self.check(False, SEVEN, "turns", prices, 0, ("apart", (line(0), line(1))))
        # They may, if it is silent.
        apart = ("apart", (line(0), line(2)))
        self.check(True, SEVEN, "hours", prices, 5, ("split", 2, ("apart", (line(3),)), apart))
        self.check(False, SEVEN, "hours", prices, 6, ("split", 2, ("apart", (line(3),)), apart))
        self.check(False, SEVEN, "hours", prices, 5, ("split", 2, NOTHING, ("apart", (line(0), line(1)))))

    def test_a_place_twice(self):
        self.check(False, FIVE, "hours", (0,) * 5, 0, ("apart", (ROW, ROW)))
        self.check(False, FIVE, "hours", (0,) * 5, -1, ("apart", (ROW, ROW)))
        # If it has no healer but silent ones they share none that is not.
        silent = NOTHING
        for road in (0, 1, 2):
            silent = ("split", road, ("apart", ()), ("apart", (ROW, ROW)) if silent == NOTHING else silent)
        self.check(True, FIVE, "hours", (7, 7, 7, 0, 0), 7, silent)
        self.check(False, FIVE, "hours", (7, 7, 6, 0, 0), 7, silent)

    def test_a_healer_that_is_told(self):
        for road in (0, 1, 2):
            self.check(False, FIVE, "hours", (9,) * 5, 1, ("split", road, ("apart", (ROW,)), ("apart", (ROW,))))
            self.check(True, FIVE, "hours", (9,) * 5, 9, ("split", road, NOTHING, ("apart", (ROW,))))
        # For turns the last road heals nothing.
        self.check(True, FIVE, "turns", (9,) * 5, 9, ("split", 2, ("apart", (ROW,)), ("apart", (ROW,))))
        self.check(True, FIVE, "hours", (9,) * 5, 9, ("split", 3, ("apart", (ROW,)), ("apart", (ROW,))))

    def test_no_healer_but_silent_ones(self):
        prices = (1, 1, 50, 1, 1)
        tree = ("split", 0, NOTHING, ("split", 1, NOTHING, ("split", 2, NOTHING, ("apart", (ROW,)))))
        self.check(True, FIVE, "hours", prices, 1, tree)
        self.check(False, FIVE, "hours", prices, 2, tree)
        self.check(True, FIVE, "turns", prices, 1, ("split", 0, NOTHING, ("split", 1, NOTHING, ("apart", (ROW,)))))
        # For hours road 2 still heals.
        tree = ("split", 0, NOTHING, ("split", 1, NOTHING, ("apart", (ROW,))))
        self.check(True, FIVE, "hours", (50, 50, 50, 1, 1), 50, tree)
        self.check(False, FIVE, "hours", (50, 50, 50, 1, 1), 51, tree)

    def test_what_is_said_holds_of_the_other_places_too(self):
        prices = (1,) * 7
        silent = ("apart", (line(0),))
        for places, right in ((((line(0)), line(3)), True), ((line(3), line(0)), True), ((line(0), line(2)), True),
                              ((line(0), line(2), line(3)), False), ((line(3), line(0), line(3)), False)):
            silent = ("apart", places)
            for road in (2, 1, 0):
                silent = ("split", road, NOTHING, silent)
            self.check(right, SEVEN, "hours", prices, 1, silent)
        # Road 4 is told, and heals the rows from 2 on.
        for places, right in (((line(0),), True), ((line(0), line(2)), False), ((line(0), line(3)), False)):
            tree = ("split", 4, ("apart", places), ("apart", (line(0),)))
            for road in (2, 1, 0):
                tree = ("split", road, NOTHING, tree)
            self.check(right, SEVEN, "hours", prices, 1, tree)

    def test_a_row_whose_first_and_last_road_are_the_same(self):
        row = ("row", 0, 1, 0)
        for sort in SORTS:
            self.check(True, BACK, sort, (4, 3), 3, ("apart", (row,)))
            self.check(False, BACK, sort, (4, 3), 4, ("apart", (row,)))
            self.check(False, BACK, sort, (4, 3), 0, ("apart", (row, ("row", 1, 0, 1))))
            self.check(True, BACK, sort, (4, 3), 3, ("split", 0, NOTHING, ("apart", (("row", 1, 0, 1),))))
            self.check(True, BACK, sort, (4, 9), 4, ("split", 0, NOTHING, ("split", 1, NOTHING, ("apart", (row, ("row", 1, 0, 1))))))
            self.check(False, BACK, sort, (4, 9), 5, ("split", 0, NOTHING, ("split", 1, NOTHING, ("apart", (row,)))))

    def test_forks(self):
        place = ("fork", 0, 2)
        self.check(True, FORK, "hours", (9, 9, 4, 0, 0), 4, ("apart", (place,)))
        # For turns the first road alone heals.
        self.check(True, FORK, "turns", (9, 8, 4, 0, 0), 17, ("apart", (place, ("fork", 1, 2))))
        self.check(False, FORK, "turns", (9, 8, 4, 0, 0), 18, ("apart", (place, ("fork", 1, 2))))
        self.check(False, FORK, "hours", (9, 8, 4, 0, 0), 0, ("apart", (place, ("fork", 1, 2))))
        self.check(True, FORK, "turns", (9, 8, 4, 0, 0), 9, ("split", 0, NOTHING, ("apart", (place,))))

    def test_a_road_that_is_split_twice(self):
        inner = ("split", 3, NOTHING, NOTHING)
        self.check(False, FIVE, "hours", (0,) * 5, 0, ("split", 3, inner, NOTHING))
        self.check(False, FIVE, "hours", (0,) * 5, -5, ("split", 3, NOTHING, inner))
        self.check(False, FIVE, "hours", (0,) * 5, 0, ("split", 3, NOTHING, ("split", 4, inner, NOTHING)))
        # On other ways it may be split once more.
        self.check(True, FIVE, "hours", (0,) * 5, 0, ("split", 4, inner, inner))

    def test_bounds(self):
        for bound in (0, -1, -10 ** 39):
            self.check(True, FOUR, "hours", (5, 2, 3, 1), bound, NOTHING)
        for bound, right in ((2, True), (3, False), (10 ** 39, False)):
            self.check(right, FOUR, "hours", (5, 2, 3, 1), bound, ("apart", (ROW,)))

    def test_things_that_are_none(self):
        wrong = [
            [], (), "apart", ("apart",), ("apart", None), ("apart", []), ("apart", [ROW]), ["apart", ()], ("apart", (), ()),
            ("Apart", ()), (b"apart", ()), ("split", 0), ("split", 0, NOTHING), ("split", 0, NOTHING, NOTHING, NOTHING),
            ("split", 0, NOTHING, None), ("split", 0, None, NOTHING), ("split", 0, [], NOTHING), ["split", 0, NOTHING, NOTHING],
            ("split", 4, NOTHING, NOTHING), ("split", -1, NOTHING, NOTHING), ("split", True, NOTHING, NOTHING),
            ("split", False, NOTHING, NOTHING), ("split", "0", NOTHING, NOTHING), ("split", (0,), NOTHING, NOTHING),
            ("split", None, NOTHING, NOTHING), ("split", 10 ** 39, NOTHING, NOTHING), ("split", LINE, NOTHING, NOTHING),
            ("apart", 0, NOTHING, NOTHING), ("split", ()), (("apart", ()),), ("apart", ROW), ("apart", (list(ROW),)),
            ("apart", (("row", 0, 1),)), ("apart", (("row", 1, 2, 3),)), ("apart", (("row", 0, 1, 2, 3),)),
            ("apart", (("row", False, 1, 2),)), ("apart", (("row", 0, True, 2),)), ("apart", (("row", 0, 1, None),)),
            ("apart", (("row", 0, 1, [2]),)), ("apart", (("fork", 0, 1, 2),)), ("apart", (("fork", 0, 1),)), ("apart", ((),)),
            ("apart", (None,)), ("apart", ("row",)), ("apart", (ROW, None)), ("apart", ((b"row", 0, 1, 2),)), ("apart", {ROW: 1}),
            ("apart", ((["row"], 0, 1, 2),)), ("apart", ((("row", 0, 1, 2),),)), ("apart", (LINE,)), ("apart", LINE), (LINE, ()),
            ("apart", (("row", LINE, 1, 2),)), ("apart", nested(tuple, 39)), ("split", 0, nested(tuple, 39), NOTHING),
            ("split", 0, NOTHING, nested(list, 39)), {0: NOTHING}, (NOTHING, NOTHING), ("split", nested(list, 38), NOTHING, NOTHING),
        ]
        for thing in ODD + wrong:
            with self.subTest(name_of(thing)):
                self.assertIs(is_floor(FOUR, "hours", (0,) * 4, -1, thing), False)
        self.assertIs(is_floor(FOUR, "hours", (0,) * 4, -1, NOTHING), True)

    def test_trees_as_deep_as_the_web_has_roads(self):
        # A web of 24 roads all of which are split, one within the other, and one once more.
        for within, right in ((NOTHING, True), (("split", 7, NOTHING, NOTHING), False)):
            for side in (0, 1):
                tree = within
                for road in range(24):
                    tree = ("split", road) + ((NOTHING, tree) if side else (tree, NOTHING))
                self.check(right, LARGE, "hours", (1,) * 24, 0, tree)
        # Things may be nested 40 deep.
        tree = NOTHING
        for _ in range(38):
            tree = ("split", 0, NOTHING, tree)
        self.check(False, LARGE, "hours", (1,) * 24, 0, tree)

    def test_trees_drawn_at_random(self):
        rng = random.Random(117)
        seen = {True: 0, False: 0}
        for _ in range(3000):
            web = drawn_web(rng, 4, 6)
            sort = rng.choice(SORTS)
            prices = tuple([rng.randint(0, 4) for _ in web.roads])
            tree = self.drawn_tree(rng, web, looked_at(web, (), sort), 0)
            bound = rng.randint(-1, 6)
            self.check(judged(web, sort, prices, bound, tree), web, sort, prices, bound, tree)
            right = is_floor(web, sort, prices, bound, tree)
            seen[right] += 1
            if right:
                # No lot that is enough costs less.
                self.assertGreaterEqual(min([sum([prices[road] for road in lot]) for lot in enough_lots(web, sort)]), bound)
        self.assertGreater(min(seen.values()), 300)

    def drawn_tree(self, rng, web, bad, depth):
        if rng.random() < 0.5 or depth > 4:
            return ("apart", tuple(rng.sample(bad, min(len(bad), rng.choice([0, 1, 1, 2])))))
        road = rng.randrange(len(web.roads))
        return ("split", road, self.drawn_tree(rng, web, bad, depth + 1), self.drawn_tree(rng, web, bad, depth + 1))

    def test_errors_in_their_order(self):
        for thing in ODD + NO_SORTS:
            if thing != "hours":
                with self.subTest(name_of(thing)), self.assertRaises(NoSort):
                    is_floor(LINE, thing, None, None, None)
        for sort in SORTS:
            for thing in ODD + NO_PRICES:
                with self.subTest(name_of(thing)), self.assertRaises(NoPrices):
                    is_floor(LINE, sort, thing, None, None)
        for thing in ODD + ["0", (0,), [0], b"\x00", DAY]:
            with self.subTest(name_of(thing)), self.assertRaises(NoNumber):
                is_floor(LINE, "hours", (0, 0, 0), thing, NOTHING)


class EighthFact(unittest.TestCase):

    def test_there_is_a_floor_exactly_up_to_the_price(self):
        rng = random.Random(118)
        for _ in range(150):
            web = drawn_web(rng, 4, 7)
            sort = rng.choice(SORTS)
            prices = tuple([rng.randint(0, 9) for _ in web.roads])
            price = min([sum([prices[road] for road in lot]) for lot in enough_lots(web, sort)])
            tree = floor(web, sort, prices)
            self.assertIs(is_floor(web, sort, prices, price, tree), True)
            # The whole tree of all roads, with each bad place that is left, is a floor for no more.
            self.assertIs(is_floor(web, sort, prices, price + 1, self.whole(web, sort, 0, (), ())), False)
            self.assertIs(is_floor(web, sort, prices, price, self.whole(web, sort, 0, (), ())), True)

    def whole(self, web, sort, road, told, silent):
        if road == len(web.roads):
            places = looked_at(web, told, sort)
            return ("apart", tuple(places[:1]))
        return ("split", road, self.whole(web, sort, road + 1, told + (road,), silent),
                self.whole(web, sort, road + 1, told, silent + (road,)))


if __name__ == "__main__":
    unittest.main()
