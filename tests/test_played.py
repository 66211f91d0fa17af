"""Days played again in halls: the second fact (5.2), played and missed (5.3)."""

import random
import unittest

from hourcards.cards import cards, late
from hourcards.days import Day, laid_over, made_day, shifted, without
from hourcards.errors import NoCards, NoLot, NoSort, NotEnough
from hourcards.halls import Hall, missed, played
from hourcards.kinds import kinds
from hourcards.webs import Web
from tests.drawn import drawn_day, drawn_lot, drawn_web
from tests.samples import BACK, DAY, EMPTY, FOUR, LINE, ODD, RING, name_of, nested
from tests.test_cards import NO_LOTS, NO_SORTS
from tests.test_days import sixty

SORTS = ("hours", "turns")


def led(web, lot, sort, bearers, order):
    """The hours, in the order of the cards, if these come to a hall in this order, and what it passed at each tick."""
    hall = Hall(web, lot, sort)
    left = list(order)
    passed = {}
    while left or hall.left():
        while left and bearers[left[0]][1] == hall.now():
            hall.come(bearers[left.pop(0)])
        waits = hall.waiting()
        now = hall.now()
        passed[now] = hall.tick()
        assert all(pair in waits for pair in passed[now]), "somebody was passed who did not wait"
        assert now < 2000
    rows = dict(zip(order, hall.so_far()))
    return tuple([rows[letter] for letter in range(len(bearers))]), {
        tick: sorted([(road, order[letter]) for road, letter in pairs]) for tick, pairs in passed.items()}


class SecondFact(unittest.TestCase):

    def check(self, rng, web, lot, sort, day):
        """That the cards of the day, however they come, are played as the second fact says."""
        bearers = cards(day, lot, sort)
        order = list(range(len(bearers)))
        rng.shuffle(order)
        order.sort(key=lambda letter: bearers[letter][1])
        hours, passed = led(web, lot, sort, bearers, order)
        # They are lawful hours of the letters ..
        self.assertEqual(Day(web, tuple([card[:2] for card in bearers]), hours).hours, hours)
        # .. everybody is home, and what is told is kept.
        self.assertEqual(late(bearers, hours), [])
        if sort == "hours":
            for card, row in zip(bearers, hours):
                for told, hour in zip(card[3], row):
                    self.assertTrue(told is None or hour <= told)
        else:
            self.check_turns(web, lot, bearers, hours, passed)
        self.assertIsNone(missed(web, lot, sort, bearers))

    def check_turns(self, web, lot, bearers, hours, passed):
        """That just so many passings of a told road were done ahead of the tick as let the turns of the tick go on."""
        done = [0] * len(web.roads)
        for tick in sorted(passed):
            turns = {}
            for road, letter in passed[tick]:
                if road in lot:
                    turns.setdefault(road, []).append(bearers[letter][3][hours[letter].index(tick)])
            for road, found in turns.items():
                self.assertEqual(sorted(found), list(range(done[road], done[road] + len(found))))
                done[road] += len(found)

    def test_days_drawn_at_random(self):
        rng = random.Random(52)
        seen = {}
        for _ in range(700):
            web = drawn_web(rng)
            for sort in SORTS:
                lot = drawn_lot(rng, web, sort)
                self.check(rng, web, lot, sort, drawn_day(rng, web))
                for kind in kinds(web, lot, sort):
                    seen[(sort, kind)] = seen.get((sort, kind), 0) + 1
        for pair in (("hours", "first"), ("hours", "second"), ("hours", "end"), ("hours", "told"), ("turns", "queue"),
                     ("turns", "first"), ("turns", "second"), ("turns", "end"), ("turns", "told")):
            self.assertGreater(seen[pair], 20, pair)

    def test_round_a_ring_and_there_and_back(self):
        rng = random.Random(53)
        for _ in range(150):
            many = rng.randint(2, 6)
            there = [(house, (house + 1) % many) for house in range(many)]
            back = [(end, begin) for begin, end in there] if rng.random() < 0.4 and many > 2 else []
            roads = tuple(there + back)
            web = Web(many, roads, tuple([rng.randint(1, 3) for _ in roads]), tuple([rng.randint(1, 3) for _ in roads]))
            for sort in SORTS:
                self.check(rng, web, drawn_lot(rng, web, sort), sort, drawn_day(rng, web))

    def test_lines_on_which_few_roads_are_told(self):
        rng = random.Random(54)
        for _ in range(200):
            many = rng.randint(2, 9)
            roads = tuple([(house, house + 1) for house in range(many)])
            web = Web(many + 1, roads, tuple([rng.randint(1, 3) for _ in roads]),
                      tuple([rng.randint(1, 3) for _ in roads]))
            for sort in SORTS:
                self.check(rng, web, drawn_lot(rng, web, sort), sort, drawn_day(rng, web, 40))

    def test_trees_on_which_many_roads_meet(self):
        rng = random.Random(55)
        for _ in range(200):
            many = rng.randint(3, 9)
            roads = tuple([(house, rng.randint(0, house - 1)) for house in range(1, many)])
            web = Web(many, roads, tuple([rng.randint(1, 2) for _ in roads]), tuple([rng.randint(1, 3) for _ in roads]))
            for sort in SORTS:
                self.check(rng, web, drawn_lot(rng, web, sort), sort, drawn_day(rng, web, 40))

    def test_letters_of_the_day_are_left_out(self):
        rng = random.Random(56)
        for _ in range(300):
            web = drawn_web(rng)
            lot = drawn_lot(rng, web, "hours")
            day = drawn_day(rng, web)
            bearers = cards(day, lot, "hours")
            kept = tuple([card for card in bearers if rng.random() < 0.6])
            self.assertIsNone(missed(web, lot, "hours", kept))
            less = without(day, [letter for letter in range(len(bearers)) if rng.random() < 0.5])
            for sort in SORTS:
                other = drawn_lot(rng, web, sort)
                self.assertIsNone(missed(web, other, sort, cards(less, other, sort)))

    def test_days_of_sixty_letters_and_beyond(self):
        rng = random.Random(57)
        for _ in range(12):
            web = drawn_web(rng)
            days = []
            for _ in range(4):
                day = drawn_day(rng, web, 60)
                if len(day.letters) < 60:
                    ways = [way for way, _ in day.letters] or [(0,)]
                    letters = tuple([(rng.choice(ways), rng.randint(1, 9)) for _ in range(60)])
                    day = made_day(web, letters, tuple([rng.randint(0, 3) for _ in letters]), {})
                days.append(day)
            many = days[0]
            for day in days[1:]:
                end = max([row[-1] for row in many.hours])
                many = laid_over(many, shifted(day, end))
            self.assertEqual(len(many.letters), 240)
            far = shifted(many, 10 ** 39)
            for sort in SORTS:
                lot = drawn_lot(rng, web, sort)
                self.assertIsNone(missed(web, lot, sort, cards(many, lot, sort)))
                self.assertIsNone(missed(web, lot, sort, cards(far, lot, sort)))

    def test_all_roads_told(self):
        rng = random.Random(58)
        for _ in range(100):
            web = drawn_web(rng)
            for sort in SORTS:
                self.check(rng, web, tuple(range(len(web.roads))), sort, drawn_day(rng, web))


class Played(unittest.TestCase):

    def test_the_examples(self):
        self.assertIsNone(missed(LINE, (), "hours", cards(DAY, (), "hours")))
        self.assertEqual(played(LINE, (), "hours", cards(DAY, (), "hours")), ((1, 2, 3), (2,)))

    def test_no_cards(self):
        for sort in SORTS:
            self.assertEqual(played(LINE, (), sort, ()), ())
            self.assertIsNone(missed(LINE, (), sort, ()))
            self.assertEqual(played(LINE, (), sort, cards(EMPTY, (), sort)), ())

    def test_hours_are_told_in_the_order_of_the_cards(self):
        bearers = (((0,), 5, 5, (None,)), ((0, 1, 2), 1, 4, (None,) * 3), ((2,), 3, 3, (None,)))
        self.assertEqual(played(LINE, (), "hours", bearers), ((5,), (1, 2, 4), (3,)))

    def test_it_is_what_a_hall_tells(self):
        rng = random.Random(59)
        for _ in range(200):
            web = drawn_web(rng)
            for sort in SORTS:
                lot = drawn_lot(rng, web, sort)
                bearers = cards(drawn_day(rng, web), lot, sort)
                order = sorted(range(len(bearers)), key=lambda letter: bearers[letter][1])
                hours, _ = led(web, lot, sort, bearers, order)
                self.assertEqual(played(web, lot, sort, bearers), hours)

    def test_ticks_that_are_far_apart(self):
        bearers = (((0, 1), 10 ** 7, 10 ** 7 + 1, (None, None)), ((0,), 1, 10 ** 7, (None,)), ((1,), 500, 500, (None,)))
        self.assertEqual(played(LINE, (), "hours", bearers), ((10 ** 7, 10 ** 7 + 1), (1,), (500,)))
        turns = (((0,), 1, 10 ** 7, (1,)), ((0,), 10 ** 6, 10 ** 7, (0,)))
        self.assertEqual(played(LINE, (0,), "turns", turns), ((10 ** 6 + 1,), (10 ** 6,)))
        self.assertIsNone(missed(LINE, (0,), "turns", turns))

    def test_cards_of_no_day(self):
        # Three letters that are all to be home at once: two are late, whatever the hall does.
        bearers = (((0,), 1, 1, (None,)),) * 3
        hours = played(LINE, (), "hours", bearers)
        self.assertEqual(sorted(hours), [(1,), (2,), (3,)])
        self.assertEqual(missed(LINE, (), "hours", bearers), [(letter, 0) for letter in range(3) if hours[letter] != (1,)])

    def test_told_hours_that_are_missed(self):
        # Both are told to be at road 1 at tick 2, and have time enough to be home.
        bearers = (((1, 2), 2, 9, (2, None)),) * 2
        hours = played(LINE, (1,), "hours", bearers)
        self.assertEqual(sorted([row[0] for row in hours]), [2, 3])
        self.assertEqual(missed(LINE, (1,), "hours", bearers), [(letter, 0) for letter in (0, 1) if hours[letter][0] == 3])
        # A last place that is told and missed stands there once.
        bearers = (((1,), 2, 2, (2,)),) * 2
        self.assertEqual(len(missed(LINE, (1,), "hours", bearers)), 1)

    def test_turns_for_which_some_are_never_home(self):
        home = ((2,), 1, 1, (None,))
        never = ((0, 1), 1, 9, (1, None))
        self.assertIsNone(played(LINE, (0,), "turns", (never,)))
        self.assertEqual(missed(LINE, (0,), "turns", (never,)), [(0, 1)])
        # Then all letters stand there, also those who could be home.
        self.assertIsNone(played(LINE, (0,), "turns", (home, never, home)))
        self.assertEqual(missed(LINE, (0,), "turns", (home, never, home)), [(0, 0), (1, 1), (2, 0)])
        # Each waits for the other's turn at the road that it passes later.
        one = ((0, 1), 1, 9, (1, 0))
        other = ((1, 0), 1, 9, (1, 0))
        self.assertIsNone(played(BACK, (0, 1), "turns", (one, other)))
        self.assertEqual(missed(BACK, (0, 1), "turns", (one, other)), [(0, 1), (1, 1)])
        # The same turn twice.
        self.assertIsNone(played(LINE, (0,), "turns", (((0,), 1, 9, (0,)),) * 2))

    def test_turns_of_no_day_that_come_home(self):
        # They come home in their turns, the one behind its hour.
        bearers = (((0,), 1, 1, (1,)), ((0,), 3, 3, (0,)))
        self.assertEqual(played(LINE, (0,), "turns", bearers), ((4,), (3,)))
        self.assertEqual(missed(LINE, (0,), "turns", bearers), [(0, 0)])

    def test_turns_are_no_hours(self):
        # The turns 0 and 1 are less than all hours; only home counts.
        bearers = (((0, 1), 1, 2, (0, 0)), ((0, 1), 1, 3, (1, 1)))
        self.assertIsNone(missed(LINE, (0, 1), "turns", bearers))

    def test_lists_are_new(self):
        bearers = (((0,), 1, 1, (None,)),) * 2
        found = missed(LINE, (), "hours", bearers)
        found.append(None)
        self.assertEqual(len(missed(LINE, (), "hours", bearers)), 1)

    def test_the_errors_in_their_order(self):
        for function in (played, missed):
            for thing in NO_LOTS:
                with self.subTest(name_of(thing)), self.assertRaises(NoLot):
                    function(LINE, thing, None, None)
            for thing in NO_SORTS:
                with self.subTest(name_of(thing)), self.assertRaises(NoSort):
                    function(FOUR, (), thing, None)
            with self.assertRaises(NotEnough) as caught:
                function(FOUR, (), "hours", None)
            self.assertEqual(caught.exception.place, ("row", 0, 1, 2))
            with self.assertRaises(NotEnough) as caught:
                function(RING, (2,), "turns", ())
            self.assertEqual(caught.exception.place, ("row", 0, 1, 2))

    def test_no_cards_of_the_web(self):
        right = ((0, 1), 1, 2, (1, None))
        wrong = [[right], right, (right, None), (list(right),), (right[:3],), (((0, 2),) + right[1:],), {0: right},
                 ((right[0], True, 2, (1, None)),), ((right[0], 1, 2, (True, None)),), ((right[0], 1, 1, (1, None)),),
                 ((right[0], 1, 2, (None, None)),), ((right[0], 1, 2, [1, None]),), (right, nested(tuple, 39)), 0, "cards"]
        for thing in ODD + wrong:
            for function in (played, missed):
                with self.subTest(name_of(thing)), self.assertRaises(NoCards):
                    function(LINE, (0,), "hours", thing)


if __name__ == "__main__":
    unittest.main()
