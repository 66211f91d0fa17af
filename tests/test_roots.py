"""Roots (10)."""

import random
import unittest

from hourcards import roots as module
from hourcards.cards import cards
from hourcards.days import Day, made_day, shifted
from hourcards.errors import NoCards, NotRooted
from hourcards.roots import root, root_hours
from hourcards.webs import Web, next_roads
from tests.samples import BACK, DAY, FORK, FOUR, LARGE, LINE, ODD, RING, SIZED, name_of, nested

# Roads 0 and 1 meet at house 2; road 2 goes on to the root 3, with two rooms; road 0 takes two ticks.
MEETING = Web(4, ((0, 2), (1, 2), (2, 3)), (1, 1, 2), (2, 1, 1))
NOT_ROOTED = [
    RING, BACK, LARGE, FORK,
    # A house has two roads, alike ones or others.
    Web(2, ((0, 1), (0, 1)), (1, 1), (1, 1)), Web(4, ((0, 1), (1, 3), (2, 3), (0, 2)), (1,) * 4, (1,) * 4),
    Web(3, ((0, 1), (0, 2)), (1, 1), (1, 1)), Web(4, ((0, 1), (0, 2), (1, 3)), (1,) * 3, (1,) * 3),
    # Two houses have none, or the house 3 is on no road.
    Web(4, ((0, 1), (2, 3)), (1, 1), (1, 1)), Web(4, ((0, 1), (1, 2)), (1, 1), (1, 1)), Web(3, ((0, 1),), (1,), (1,)),
    # A ring beside the root.
    Web(4, ((0, 1), (2, 3), (3, 2)), (1,) * 3, (1,) * 3), Web(5, ((0, 1), (2, 3), (3, 4), (4, 2)), (1,) * 4, (1,) * 4),
    Web(6, ((0, 1), (5, 2), (2, 3), (3, 4), (4, 2)), (1,) * 5, (1,) * 5),
]


def rooted_web(rng, houses):
    """A web with a root, of which the houses are numbered in any order."""
    many = rng.randint(2, houses)
    names = list(range(many))
    rng.shuffle(names)
    pairs = [(names[k], names[rng.randint(max(0, k - rng.choice([1, 3, 12])), k - 1)]) for k in range(1, many)]
    rng.shuffle(pairs)
    most = rng.choice([1, 3])
    web = Web(many, tuple(pairs), tuple([rng.randint(1, most) for _ in pairs]), tuple([rng.randint(1, most) for _ in pairs]))
    return web, names[0]


def way_to_root(rng, web):
    way = [rng.randrange(len(web.roads))]
    while next_roads(web, way[-1]):
        way.append(next_roads(web, way[-1])[0])
    # A way has eight roads at most, so those that begin too far away begin later.
    return tuple(way[-8:])


def led_hours(web, bearers):
    """The hours as 10.1 says, looked at tick by tick."""
    rows = [[] for _ in bearers]
    tick = 0
    while any([len(row) < len(card[0]) for row, card in zip(rows, bearers)]):
        tick += 1
        here = {}
        for number, (row, card) in enumerate(zip(rows, bearers)):
            if len(row) < len(card[0]):
                first = row[-1] + web.times[card[0][len(row) - 1]] if row else card[1]
                if first <= tick:
                    here.setdefault(card[0][len(row)], []).append((card[2], number))
        for road, found in here.items():
            for _, number in sorted(found)[:web.rooms[road]]:
                rows[number].append(tick)
    return tuple([tuple(row) for row in rows])


class Roots(unittest.TestCase):

    def test_by_hand(self):
        for web, house in ((FOUR, 4), (LINE, 3), (MEETING, 3), (Web(2, ((1, 0),), (3,), (3,)), 0),
                           (Web(5, ((0, 3), (1, 3), (2, 3), (4, 3)), (1,) * 4, (1,) * 4), 3),
                           (Web(4, ((3, 2), (2, 1), (1, 0)), (1,) * 3, (2,) * 3), 0)):
            self.assertEqual(root(web), house)
            self.assertIs(type(root(web)), int)

    def test_webs_without_one(self):
        for web in NOT_ROOTED:
            with self.subTest(web.roads):
                self.assertIsNone(root(web))

    def test_webs_drawn_at_random(self):
        rng = random.Random(101)
        for _ in range(300):
            web, house = rooted_web(rng, 12)
            self.assertEqual(root(web), house)
            # One road more from anywhere, or one road less, and there is none.
            begin = rng.randrange(web.houses)
            end = rng.choice([other for other in range(web.houses) if other != begin])
            more = Web(web.houses, web.roads + ((begin, end),), web.rooms + (1,), web.times + (1,))
            self.assertIsNone(root(more))
            if len(web.roads) > 1:
                self.assertIsNone(root(Web(web.houses, web.roads[1:], web.rooms[1:], web.times[1:])))

    def test_everything_is_defined_where_the_interface_lists_it(self):
        for name in ("root", "root_hours"):
            self.assertEqual(getattr(module, name).__module__, "hourcards.roots")


class Hours(unittest.TestCase):

    def test_by_hand(self):
        # Both are at road 0 at 1; the second one has the lesser home hour. Letter 2 is at road 2 at 2, letter 1 at 3.
        bearers = (((0, 2), 1, 9, (None, None)), ((0, 2), 1, 3, (None, None)), ((1, 2), 1, 4, (None, None)))
        self.assertEqual(root_hours(MEETING, bearers), ((2, 4), (1, 3), (1, 2)))
        self.assertEqual(root_hours(MEETING, ()), ())

    def test_of_equal_home_hours_the_least_number(self):
        bearers = (((2,), 1, 5, (None,)),) * 5
        self.assertEqual(root_hours(MEETING, bearers), ((1,), (1,), (2,), (2,), (3,)))

    def test_a_letter_that_comes_later_with_a_lesser_home_hour(self):
        bearers = (((0,), 1, 8, (None,)), ((0,), 1, 9, (None,)), ((0,), 2, 2, (None,)), ((0,), 10 ** 7, 10 ** 7, (None,)))
        web = Web(2, ((0, 1),), (1,), (3,))
        self.assertEqual(root_hours(web, bearers), ((1,), (3,), (2,), (10 ** 7,)))

    def test_cards_of_no_day(self):
        # All want to be home at 3.
        bearers = (((0, 1, 2), 1, 3, (None,) * 3),) * 3
        self.assertEqual(root_hours(LINE, bearers), ((1, 2, 3), (2, 3, 4), (3, 4, 5)))

    def test_hours_are_tuples(self):
        found = root_hours(LINE, cards(DAY, (), "hours")[:1])
        self.assertEqual(found, ((1, 2, 3),))
        self.assertIsInstance(found, tuple)
        self.assertIsInstance(found[0], tuple)

    def test_days_led_at_random(self):
        rng = random.Random(102)
        for _ in range(400):
            web, _ = rooted_web(rng, 12)
            letters = tuple([(way_to_root(rng, web), rng.randint(1, rng.choice([1, 6, 15]))) for _ in range(rng.randint(0, 40))])
            holds = {(number, place): rng.randint(1, 25) for number, (way, _) in enumerate(letters)
                     for place in range(len(way)) if rng.random() < 0.2}
            day = made_day(web, letters, tuple([rng.randint(0, 9) for _ in letters]), holds)
            bearers = cards(day, (), "hours")
            # Some letters may be left out.
            bearers = tuple([card for card in bearers if rng.random() < 0.95])
            hours = root_hours(web, bearers)
            self.assertEqual(hours, led_hours(web, bearers))
            self.assertEqual(Day(web, tuple([card[:2] for card in bearers]), hours).hours, hours)
            for card, row in zip(bearers, hours):
                self.assertLessEqual(row[-1], card[2])

    def test_cards_of_both_sorts_are_the_same(self):
        self.assertEqual(root_hours(LINE, cards(DAY, (), "hours")[:1]), root_hours(LINE, cards(DAY, (), "turns")[:1]))

    def test_cards_of_days_beyond_the_bounds(self):
        later = shifted(Day(LINE, (((1, 2), 1),) * 2, ((1, 3), (2, 4))), 10 ** 9)
        self.assertEqual(root_hours(LINE, cards(later, (), "hours")),
                         ((1 + 10 ** 9, 2 + 10 ** 9), (2 + 10 ** 9, 3 + 10 ** 9)))

    def test_not_rooted_then_no_cards(self):
        for web in NOT_ROOTED:
            for thing in (None, (), cards(DAY, (), "hours")):
                with self.assertRaises(NotRooted):
                    root_hours(web, thing)

    def test_no_cards(self):
        right = ((1, 2), 1, 2, (None, None))
        self.assertEqual(root_hours(LINE, (right,)), ((1, 2),))
        wrong = [
            [right], {0: right}, right, (list(right),), (right, None), (None, right), (right, right[:3]), (right + (None,),),
            # Ways that end ahead of the root, or are none.
            (((0, 1), 1, 2, (None, None)),), (((0,), 1, 1, (None,)),), (right, ((1,), 1, 1, (None,))), (((2, 1), 1, 2, (None, None)),),
            (((), 1, 2, ()),), (((1, True), 1, 2, (None, None)),), (([1, 2],) + right[1:],), (((1, 3),) + right[1:],),
            (((1, 2), 0, 2, (None, None)),), (((1, 2), True, 2, (None, None)),), (((1, 2), "1", 2, (None, None)),),
            (((1, 2), 2, 2, (None, None)),), (((1, 2), 1, 1, (None, None)),), (((1, 2), 1, None, (None, None)),),
            (((1, 2), 1, True, (None, None)),), (((1, 2), 1, 2, (1, None)),), (((1, 2), 1, 2, (None, 2)),),
            (((1, 2), 1, 2, (None,)),), (((1, 2), 1, 2, (None,) * 3),), (((1, 2), 1, 2, [None, None]),), (((1, 2), 1, 2, None),),
            (((1, 2), 1, 2, (False, None)),), (SIZED,), (((1, 2), 1, 2, nested(tuple, 37)),), ((1, 2), 1, 2, (None, None)),
        ]
        for thing in ODD + wrong:
            if thing != ():
                with self.subTest(name_of(thing)), self.assertRaises(NoCards):
                    root_hours(LINE, thing)

    def test_the_least_home_that_a_letter_alone_could_have(self):
        self.assertEqual(root_hours(MEETING, (((0, 2), 5, 7, (None, None)),)), ((5, 7),))
        with self.assertRaises(NoCards):
            root_hours(MEETING, (((0, 2), 5, 6, (None, None)),))


if __name__ == "__main__":
    unittest.main()
