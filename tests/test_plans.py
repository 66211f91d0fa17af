"""Plans: gaps, cards and halls (9)."""

import itertools
import random
import unittest

from hourcards import plans as module
from hourcards.days import Day, laid_over, shifted
from hourcards.errors import NoCard, NoPlan, NotEnough
from hourcards.plans import PlanHall, is_plan, least_plan, plan_cards, plan_gaps
from hourcards.webs import Web
from tests.drawn import drawn_day, drawn_web
from tests.samples import BACK, DAY, EMPTY, FORK, FOUR, LARGE, LINE, ODD, SIZED, name_of, nested
from tests.test_days import sixty

# Each place is told; just the last one is told.
ALL = tuple([tuple(range(length)) for length in range(1, 9)])
LAST = tuple([(length - 1,) for length in range(1, 9)])
LEAST = ((0,), (1,), (0, 2), (1, 3), (0, 2, 4), (1, 3, 5), (0, 2, 4, 6), (1, 3, 5, 7))


def plan_with(*changes):
    """The least plan with other places for these lengths."""
    plan = list(LEAST)
    for length, places in changes:
        plan[length - 1] = places
    return tuple(plan)


NO_PLANS = [
    [], (), {}, 0, "01234567", list(LEAST), LEAST[:7], LEAST + ((0,),), LEAST[1:] + LEAST[:1], (0, 1, 2, 3, 4, 5, 6, 7),
    (None,) * 8, ((),) * 8, ([0],) + LEAST[1:], plan_with((2, [1])), plan_with((2, (0,))), plan_with((2, ())),
    plan_with((2, (1, 0))), plan_with((2, (1, 1))), plan_with((2, (0, 0, 1))), plan_with((2, (1, 2))), plan_with((2, (-1, 1))),
    plan_with((2, (True,))), plan_with((1, (False,))), plan_with((2, (False, 1))), plan_with((2, (0, True))),
    plan_with((2, (None, 1))), plan_with((2, ("0", 1))), plan_with((2, "01")), plan_with((2, b"\x01")), plan_with((2, {1: 1})),
    plan_with((3, (0, 1))), plan_with((3, ((0,), 2))), plan_with((8, nested(tuple, 38))), plan_with((8, range(8))),
    plan_with((8, LINE)), plan_with((2, 1)), plan_with((3, (2, 0))), plan_with((2, (10 ** 39, 1))), {0: LEAST}, (LEAST,),
]


def drawn_plan(rng, enough):
    """A plan in which some places are left out, so far as it is to be enough."""
    plan = []
    for length in range(1, 9):
        places = list(range(length))
        for place in rng.sample(range(length - 1), length - 1):
            beside = place - 1 in places or place == 0, place + 1 in places
            if rng.random() < 0.8 and (all(beside) or not enough):
                places.remove(place)
        plan.append(tuple(places))
    return tuple(plan)


class Plans(unittest.TestCase):

    def test_what_is_a_plan(self):
        for thing in (LEAST, ALL, LAST, plan_with((8, (2, 5, 7)))):
            self.assertIs(is_plan(thing), True)
        for thing in ODD + NO_PLANS:
            with self.subTest(name_of(thing)):
                self.assertIs(is_plan(thing), False)

    def test_all_tuples_of_places_of_a_length(self):
        for many in range(4):
            for places in itertools.product(range(-1, 4), repeat=many):
                right = list(places) == sorted(set(places)) and set(places) <= {0, 1, 2} and 2 in places
                self.assertIs(is_plan(plan_with((3, places))), right, places)

    def test_the_least_plan_is_looked_for(self):
        found = least_plan()
        self.assertEqual(found, LEAST)
        self.assertIsInstance(found, tuple)
        for length in range(1, 9):
            right = [places for many in range(1, length + 1) for places in itertools.combinations(range(length), many)
                     if length - 1 in places and not [place for place in range(length - 1)
                                                      if place not in places and place + 1 not in places]]
            fewest = min([len(places) for places in right])
            self.assertEqual(found[length - 1], min([places for places in right if len(places) == fewest]))

    def test_gaps_by_hand(self):
        self.assertEqual(plan_gaps(LEAST), [])
        self.assertEqual(plan_gaps(ALL), [])
        self.assertEqual(plan_gaps(LAST), [(length, place) for length in range(3, 9) for place in range(length - 2)])
        self.assertEqual(plan_gaps(plan_with((3, (2,)))), [(3, 0)])
        self.assertEqual(plan_gaps(plan_with((8, (0, 1, 2, 3, 4, 7)))), [(8, 5)])
        self.assertEqual(plan_gaps(plan_with((8, (0, 4, 7)))), [(8, 1), (8, 2), (8, 5)])
        self.assertEqual(plan_gaps(plan_with((8, (2, 5, 7)), (4, (3,)))), [(4, 0), (4, 1), (8, 0), (8, 3)])
        self.assertEqual(plan_gaps(plan_with((2, (1,)))), [])
        self.assertIsInstance(plan_gaps(LEAST), list)

    def test_the_list_of_gaps_is_new(self):
        plan_gaps(LAST).append(None)
        self.assertEqual(len(plan_gaps(LAST)), 21)

    def test_everything_is_defined_where_the_interface_lists_it(self):
        for name in ("is_plan", "is_plan_trap", "plan_cards", "least_plan", "plan_trap", "plan_gaps", "PlanHall"):
            self.assertEqual(getattr(module, name).__module__, "hourcards.plans")
        for name in ("now", "come", "tick", "waiting", "so_far", "left"):
            self.assertIn(name, vars(PlanHall))

    def test_no_plan(self):
        for thing in ODD + NO_PLANS:
            with self.subTest(name_of(thing)):
                for call in (lambda: plan_cards(DAY, thing), lambda: plan_gaps(thing), lambda: PlanHall(LINE, thing)):
                    with self.assertRaises(NoPlan):
                        call()


class Cards(unittest.TestCase):

    def test_by_hand(self):
        self.assertEqual(plan_cards(DAY, LEAST), (((0, 1, 2), 1, 3, (1, None, 3)), ((0,), 2, 2, (2,))))
        self.assertEqual(plan_cards(DAY, ALL), (((0, 1, 2), 1, 3, (1, 2, 3)), ((0,), 2, 2, (2,))))
        self.assertEqual(plan_cards(DAY, LAST), (((0, 1, 2), 1, 3, (None, None, 3)), ((0,), 2, 2, (2,))))
        self.assertEqual(plan_cards(EMPTY, LEAST), ())

    def test_it_tells_places_and_not_roads(self):
        # Road 0 is passed at 2 and, after the road back, which takes three ticks, at 9.
        day = Day(BACK, (((0, 1, 0), 2), ((0, 1), 1), ((1, 0), 4)), ((2, 5, 9), (1, 2), (4, 8)))
        self.assertEqual(plan_cards(day, LEAST),
                         (((0, 1, 0), 2, 9, (2, None, 9)), ((0, 1), 1, 2, (None, 2)), ((1, 0), 4, 8, (None, 8))))
        self.assertEqual(plan_cards(day, plan_with((3, (1, 2)))),
                         (((0, 1, 0), 2, 9, (None, 5, 9)), ((0, 1), 1, 2, (None, 2)), ((1, 0), 4, 8, (None, 8))))

    def test_days_beyond_the_bounds(self):
        many = laid_over(sixty(), shifted(sixty(), 1000))
        later = shifted(many, 10 ** 7)
        for (way, come, home, told), (_, first), row in zip(plan_cards(later, ALL), later.letters, later.hours):
            self.assertEqual((come, home, told), (first, row[-1], row))
        self.assertEqual(len(plan_cards(many, LEAST)), len(many.letters))


class Halls(unittest.TestCase):

    def test_by_hand(self):
        hall = PlanHall(LINE, LEAST)
        self.assertEqual((hall.now(), hall.waiting(), hall.so_far(), hall.left()), (1, [], (), 0))
        # Both are at road 0 at tick 1; what is told of letter 1, of two roads, is just its last hour.
        hall.come(((0, 1, 2), 1, 4, (2, None, 4)))
        hall.come(((0, 1), 1, 2, (None, 2)))
        self.assertEqual((hall.waiting(), hall.left()), ([(0, 0), (0, 1)], 2))
        self.assertEqual(hall.tick(), [(0, 1)])
        self.assertEqual((hall.waiting(), hall.so_far()), ([(0, 0), (1, 1)], ((None, None, None), (1, None))))
        self.assertEqual(hall.tick(), [(0, 0), (1, 1)])
        self.assertEqual((hall.now(), hall.left()), (3, 1))
        self.assertEqual([hall.tick(), hall.tick(), hall.tick()], [[(1, 0)], [(2, 0)], []])
        self.assertEqual((hall.so_far(), hall.left(), hall.now()), (((2, 3, 4), (1, 2)), 0, 6))

    def test_times_and_rooms(self):
        # The road back takes three ticks, so who is told at 6 behind it is passed there by 3.
        hall = PlanHall(BACK, LEAST)
        hall.come(((1, 0), 1, 9, (None, 9)))
        hall.come(((1, 0), 1, 6, (None, 6)))
        hall.come(((1,), 1, 3, (3,)))
        self.assertEqual(hall.tick(), [(1, 1), (1, 2)])
        self.assertEqual(hall.tick(), [(1, 0)])
        self.assertEqual((hall.waiting(), hall.tick()), ([], []))
        self.assertEqual((hall.waiting(), hall.tick()), ([(0, 1)], [(0, 1)]))
        self.assertEqual((hall.tick(), hall.so_far()), ([(0, 0)], ((2, 5), (1, 4), (1,))))

    def test_letters_that_do_not_go_by_the_same_length(self):
        # A letter of length 1 that has to be home at 1 is ahead of one that is told at 2 behind its silent place.
        hall = PlanHall(FOUR, LEAST)
        hall.come(((0, 1), 1, 3, (None, 3)))
        hall.come(((0,), 1, 1, (1,)))
        self.assertEqual([hall.tick(), hall.tick(), hall.tick()], [[(0, 1)], [(0, 0)], [(1, 0)]])

    def test_not_enough(self):
        for plan, gap in ((LAST, (3, 0)), (plan_with((8, (0, 1, 2, 3, 4, 7))), (8, 5)), (plan_with((5, (0, 4))), (5, 1)),
                          (plan_with((8, (7,)), (4, (0, 3))), (4, 1))):
            with self.assertRaises(NotEnough) as caught:
                PlanHall(LINE, plan)
            self.assertEqual(caught.exception.place, gap)

    def test_no_card(self):
        right = ((0, 1, 2), 1, 6, (2, None, 6))
        hall = PlanHall(LINE, LEAST)
        wrong = [
            list(right), (), right[:3], right + (None,), (right,), ((0, 2),) + right[1:], ([0, 1, 2],) + right[1:],
            ((0, True, 2),) + right[1:], ((0, 1),) + right[1:], (right[0], 2) + right[2:], (right[0], True) + right[2:],
            (right[0], 0) + right[2:], (right[0], "1") + right[2:], (right[0], None) + right[2:], right[:2] + (5, (2, None, 6)),
            right[:2] + (7, (2, None, 6)), right[:2] + (None, (2, None, 6)), right[:2] + (True, (2, None, True)),
            right[:2] + ("6", (2, None, 6)), right[:3] + ([2, None, 6],), right[:3] + ((2, 3, 6),), right[:3] + ((None, 3, 6),),
            right[:3] + ((None, None, 6),), right[:3] + ((2, None, None),), right[:3] + ((2, None),), right[:3] + ((2, None, 6, 7),),
            right[:3] + ((True, None, 6),), right[:3] + ((2, False, 6),), right[:3] + (("2", None, 6),), right[:3] + ((0, None, 6),),
            right[:3] + ((5, None, 6),), right[:3] + ("2 6",), right[:3] + (None,), right[:3] + (nested(tuple, 39),), {0: right},
            right[:2] + (3, (2, None, 3)), (LINE,) + right[1:], SIZED, ((0, 1, 2), 1, 6, (2, None, True)),
        ]
        for thing in ODD + wrong:
            with self.subTest(name_of(thing)), self.assertRaises(NoCard):
                hall.come(thing)
            self.assertEqual((hall.left(), hall.so_far(), hall.waiting(), hall.now()), (0, (), [], 1))
        hall.come(right)
        hall.tick()
        with self.assertRaises(NoCard):
            hall.come(right)
        self.assertEqual((hall.left(), hall.so_far()), (1, ((1, None, None),)))

    def test_hours_that_a_letter_alone_could_have(self):
        # Road 3 of FORK begins where 2 ends; 1 takes two ticks, 2 takes three.
        hall = PlanHall(FORK, LEAST)
        for home, told, right in ((6, (1, None, 6), True), (5, (1, None, 5), False), (7, (2, None, 7), True),
                                  (6, (2, None, 6), False), (10 ** 7, (10 ** 7 - 5, None, 10 ** 7), True)):
            card = ((1, 2, 3), 1, home, told)
            with self.subTest(told):
                if right:
                    hall.come(card)
                else:
                    with self.assertRaises(NoCard):
                        hall.come(card)
        self.assertEqual(hall.left(), 3)

    def test_a_letter_of_a_single_road(self):
        hall = PlanHall(LINE, LEAST)
        hall.come(((2,), 1, 1, (1,)))
        with self.assertRaises(NoCard):
            hall.come(((2,), 1, 1, (None,)))
        with self.assertRaises(NoCard):
            hall.come(((2,), 1, 2, (1,)))
        # A home hour that is equal to what is told is none if it is a flag.
        with self.assertRaises(NoCard):
            hall.come(((2,), 1, True, (1,)))
        self.assertEqual(hall.tick(), [(2, 0)])

    def test_lists_are_new_and_halls_go_apart(self):
        hall, other = PlanHall(LINE, LEAST), PlanHall(LINE, LEAST)
        hall.come(((0, 1), 1, 2, (None, 2)))
        hall.waiting().append(None)
        self.assertEqual(hall.waiting(), [(0, 0)])
        hall.tick().append(None)
        self.assertEqual(hall.so_far(), ((1, None),))
        self.assertEqual((other.now(), other.left(), other.so_far()), (1, 0, ()))
        for thing in ODD + [other]:
            self.assertIs(hall == thing, False)


class SixthFact(unittest.TestCase):

    def check(self, rng, day, plan, leave_out):
        bearers = plan_cards(day, plan)
        order = [letter for letter in range(len(bearers)) if rng.random() >= leave_out]
        rng.shuffle(order)
        order.sort(key=lambda letter: bearers[letter][1])
        hall = PlanHall(day.web, plan)
        coming = list(order)
        passed = {}
        while coming or hall.left():
            while coming and bearers[coming[0]][1] == hall.now():
                hall.come(bearers[coming.pop(0)])
            waits, now = hall.waiting(), hall.now()
            self.assertEqual(waits, sorted(waits))
            found = hall.tick()
            self.assertEqual(found, sorted(found))
            for road, letter in found:
                self.assertIn((road, letter), waits)
                passed[(road, now)] = passed.get((road, now), 0) + 1
                self.assertLessEqual(passed[(road, now)], day.web.rooms[road])
            self.assertEqual(hall.now(), now + 1)
        hours = hall.so_far()
        # They are lawful, and nobody is late.
        Day(day.web, tuple([day.letters[letter] for letter in order]), hours)
        for letter, row in zip(order, hours):
            self.assertLessEqual(row[-1], bearers[letter][2])
            for hour, told in zip(row, bearers[letter][3]):
                self.assertTrue(told is None or hour <= told)

    def test_days_drawn_at_random(self):
        rng = random.Random(91)
        for number in range(500):
            plan = LEAST if number % 3 == 0 else drawn_plan(rng, True)
            self.assertEqual(plan_gaps(plan), [])
            self.check(rng, drawn_day(rng, drawn_web(rng)), plan, rng.choice([0, 0, 0.3]))

    def test_crowded_days_of_long_ways(self):
        rng = random.Random(92)
        for web in (BACK, LARGE, Web(3, ((0, 1), (1, 2), (2, 0), (1, 0)), (1, 1, 1, 1), (1, 2, 3, 1))):
            for _ in range(60):
                self.check(rng, drawn_day(rng, web, 40), drawn_plan(rng, True), 0)

    def test_the_day_goes_on_as_it_was_led(self):
        # One room, and letters whose silent places all have to be passed at just their hours.
        letters = (((0, 1, 2), 1), ((0, 1), 1), ((0,), 1), ((1, 2), 3))
        self.check(random.Random(93), Day(LINE, letters, ((3, 5, 6), (2, 4), (1,), (3, 4))), LEAST, 0)


if __name__ == "__main__":
    unittest.main()
