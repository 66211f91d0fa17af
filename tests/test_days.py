"""Days, and who waits on them (2.1, 2.2)."""

import unittest

from hourcards import days
from hourcards.days import Day, laid_over, shifted, waiting
from hourcards.errors import BadDay, NoTick
from hourcards.webs import Web
from tests.samples import BACK, DAY, EMPTY, FORK, LINE, ODD, name_of, nested

LETTERS = (((0, 1), 2), ((1,), 3))
HOURS = ((2, 4), (3,))

# In the place of letters of LINE, beside ODD.
NO_LETTERS = [
    [], {}, 0, 1, "01", list(LETTERS), (list(LETTERS[0]), LETTERS[1]), (([0, 1], 2), ((1,), 3)), LETTERS[0],
    (LETTERS[0], ((1,),)), (LETTERS[0], ((1,), 3, 3)), (LETTERS[0], ()), (LETTERS[0], None), (LETTERS[0], "ab"),
    (LETTERS[0], b"\x01\x03"), (LETTERS[0], {(1,): 3, 0: 1}), (LETTERS[0], (3, (1,))), (LETTERS[0], (1, 3)),
    (LETTERS[0], ((), 3)), (LETTERS[0], ((3,), 3)), (LETTERS[0], ((-1,), 3)), (LETTERS[0], ((1, 0), 3)),
    (LETTERS[0], ((0, 2), 3)), (LETTERS[0], ((True,), 3)), (LETTERS[0], ((0, 1, 2) * 3, 3)), (LETTERS[0], (LINE, 3)),
    (LETTERS[0], ((1,), 0)), (LETTERS[0], ((1,), -1)), (LETTERS[0], ((1,), 10 ** 6 + 1)),
    (LETTERS[0], ((1,), 10 ** 39)), (LETTERS[0], ((1,), True)), (LETTERS[0], ((1,), None)), (LETTERS[0], ((1,), "3")),
    (LETTERS[0], ((1,), (3,))), (LETTERS[0], ((1,), DAY)), (LETTERS[0], (nested(tuple, 38), 3)),
    (LETTERS[0], ((1,), nested(list, 38))), {0: LETTERS[0], 1: LETTERS[1]}, {LETTERS[0]: LETTERS[1]},
    (((0,), 1),) * 61, (((0,), 1),) * 2500,
]
# In the place of hours of LETTERS, beside ODD.
NO_HOURS = [
    (), [], {}, 0, 1, list(HOURS), ([2, 4], (3,)), ((2, 4), [3]), ((2, 4),), ((2, 4), (3,), (3,)), ((2,), (3,)),
    ((2, 4, 5), (3,)), ((2, 4), ()), ((2, 4), 3), ((2, 4), None), ((2, None), (3,)), ((2, "4"), (3,)),
    ((True, 4), (3,)), ((2, True), (3,)), ((2, 4), (True,)), ((2, 4), "3"), ((2, 4), b"\x03"), ((2, 4), {3: 3}),
    ((2, (4,)), (3,)), ((2, 4), (LINE,)), (2, 4), {0: (2, 4), 1: (3,)}, ((2, nested(list, 38)), (3,)),
    ((2, 4), (nested(tuple, 38),)), ((3,), (2, 4)),
]
BIG_WAYS = (((0, 1) * 4, 10 ** 6), ((1,), 1))


def sixty():
    """The day of sixty letters that come to the road 0 of LINE at tick 1, passed one a tick."""
    return Day(LINE, (((0,), 1),) * 60, tuple([(hour,) for hour in range(1, 61)]))


class Days(unittest.TestCase):

    def assert_bad(self, part, *told):
        with self.assertRaises(BadDay) as caught:
            Day(*told)
        self.assertEqual(caught.exception.part, part)

    def test_its_attributes_are_the_three(self):
        day = Day(LINE, LETTERS, HOURS)
        self.assertEqual((day.web, day.letters, day.hours), (LINE, LETTERS, HOURS))
        self.assertEqual(sorted(vars(day)), ["hours", "letters", "web"])

    def test_edges_of_the_sizes(self):
        self.assertEqual((EMPTY.letters, EMPTY.hours), ((), ()))
        self.assertEqual(len(sixty().letters), 60)
        # The road back takes three ticks, the road there one.
        hours = (10 ** 6, 10 ** 6 + 1, 10 ** 6 + 4, 10 ** 6 + 5, 10 ** 6 + 8, 10 ** 6 + 9, 10 ** 6 + 12, 10 ** 6 + 13)
        self.assertEqual(Day(BACK, BIG_WAYS, (hours, (1,))).hours, (hours, (1,)))

    def test_hours_have_no_upper_bound(self):
        self.assertEqual(Day(LINE, LETTERS, ((2, 10 ** 39), (3,))).hours[0], (2, 10 ** 39))

    def test_bad_letters(self):
        for thing in ODD + NO_LETTERS:
            with self.subTest(name_of(thing)):
                self.assert_bad("letters", LINE, thing, HOURS)

    def test_bad_hours(self):
        for thing in ODD + NO_HOURS:
            with self.subTest(name_of(thing)):
                self.assert_bad("hours", LINE, LETTERS, thing)
        self.assert_bad("hours", LINE, (), [])
        self.assert_bad("hours", LINE, (), ((),))

    def test_a_letter_is_not_passed_ahead_of_its_tick(self):
        self.assertEqual(Day(LINE, (((0,), 5),), ((5,),)).hours, ((5,),))
        for hour in (4, 0, -1, -10 ** 39):
            self.assert_bad("early", LINE, (((0,), 5),), ((hour,),))

    def test_a_letter_is_not_passed_ahead_of_the_time_of_the_road_ahead(self):
        # Road 0 takes 1 tick, road 1 takes 3; what counts is the road that is left.
        letters = (((0, 1, 0), 5),)
        self.assertEqual(Day(BACK, letters, ((5, 6, 9),)).hours, ((5, 6, 9),))
        self.assertEqual(Day(BACK, letters, ((7, 9, 12),)).hours, ((7, 9, 12),))
        for hours in ((5, 5, 9), (5, 6, 8), (7, 9, 11), (7, 7, 12), (6, 4, 12)):
            with self.subTest(hours):
                self.assert_bad("early", BACK, letters, (hours,))

    def test_early_at_any_letter(self):
        letters = (((0,), 1), ((1,), 4))
        self.assertEqual(Day(LINE, letters, ((1,), (4,))).letters, letters)
        self.assert_bad("early", LINE, letters, ((0,), (4,)))
        self.assert_bad("early", LINE, letters, ((1,), (3,)))

    def test_a_road_passes_as_many_letters_as_it_has_rooms(self):
        for road, rooms in enumerate((1, 2, 3)):
            letters = (((road,), 1),) * (rooms + 1)
            with self.subTest(road):
                hours = ((2,),) * rooms
                self.assertEqual(Day(FORK, letters, hours + ((1,),)).hours, hours + ((1,),))
                self.assert_bad("full", FORK, letters, hours + ((2,),))

    def test_full_counts_all_places_of_ways_that_pass_a_road_again(self):
        letters = (((0, 1, 0), 1), ((0,), 1))
        self.assertEqual(Day(BACK, letters, ((1, 2, 5), (4,))).letters, letters)
        self.assert_bad("full", BACK, letters, ((1, 2, 5), (5,)))
        self.assert_bad("full", BACK, letters, ((1, 2, 5), (1,)))

    def test_alike_roads_have_rooms_of_their_own(self):
        web = Web(2, ((0, 1), (0, 1)), (1, 1), (1, 1))
        self.assertEqual(len(Day(web, (((0,), 1), ((1,), 1)), ((1,), (1,))).letters), 2)

    def test_the_first_part_that_is_not_as_told(self):
        self.assert_bad("letters", LINE, None, None)
        self.assert_bad("hours", LINE, LETTERS, ((1, 1), ('3',)))
        self.assert_bad("hours", LINE, LETTERS, ((1, 1), None))
        self.assert_bad("early", LINE, (((0,), 5), ((0,), 1), ((0,), 1)), ((4,), (1,), (1,)))
        self.assert_bad("full", LINE, (((0,), 4), ((0,), 1), ((0,), 1)), ((4,), (1,), (1,)))

    def test_equal_just_if_the_three_are(self):
        day = Day(LINE, LETTERS, HOURS)
        self.assertTrue(day == Day(Web(4, ((0, 1), (1, 2), (2, 3)), (1, 1, 1), (1, 1, 1)), LETTERS, HOURS))
        self.assertFalse(day != Day(LINE, LETTERS, HOURS))
        longer = Web(5, ((0, 1), (1, 2), (2, 3)), (1, 1, 1), (1, 1, 1))
        others = [
            (longer, LETTERS, HOURS), (LINE, (((0, 1), 1), ((1,), 3)), HOURS), (LINE, LETTERS, ((2, 5), (3,))),
            (LINE, LETTERS[::-1], HOURS[::-1]), (LINE, (), ()),
        ]
        for told in others:
            with self.subTest(told[1:]):
                self.assertFalse(day == Day(*told))
                self.assertTrue(day != Day(*told))

    def test_equal_to_nothing_of_another_class_or_kind(self):
        for thing in ODD + [(), (LINE, (), ()), [LINE, (), ()], 0]:
            with self.subTest(name_of(thing)):
                self.assertIs(EMPTY == thing, False)
                self.assertIs(thing == EMPTY, False)

    def test_everything_is_defined_where_the_interface_lists_it(self):
        for name in ("Day", "waiting", "made_day", "without", "shifted", "laid_over"):
            self.assertEqual(getattr(days, name).__module__, "hourcards.days")
        self.assertIn("__eq__", vars(Day))


class Waiting(unittest.TestCase):

    def test_from_the_tick_on_at_which_it_may_be_passed_until_it_is(self):
        # It comes at 2, passes road 0 at 4, road 1 (from 5 on) at 5 and road 2 (from 6 on) at 8.
        day = Day(LINE, (((0, 1, 2), 2),), ((4, 5, 8),))
        told = {1: [], 2: [(0, 0)], 3: [(0, 0)], 4: [(0, 0)], 5: [(1, 0)], 6: [(2, 0)], 7: [(2, 0)], 8: [(2, 0)],
                9: [], 10 ** 39: []}
        for tick, found in told.items():
            with self.subTest(tick):
                self.assertEqual(waiting(day, tick), found)

    def test_between_two_roads_nobody_waits(self):
        # The road back is passed at 1 and takes three ticks: the road there may pass from 4 on.
        day = Day(BACK, (((1, 0), 1),), ((1, 5),))
        self.assertEqual([waiting(day, tick) for tick in range(1, 7)], [[(1, 0)], [], [], [(0, 0)], [(0, 0)], []])

    def test_a_road_that_is_passed_again_is_waited_for_again(self):
        day = Day(BACK, (((0, 1, 0), 1),), ((1, 2, 7),))
        self.assertEqual([waiting(day, tick) for tick in range(1, 9)],
                         [[(0, 0)], [(1, 0)], [], [], [(0, 0)], [(0, 0)], [(0, 0)], []])

    def test_ascending_by_road_then_letter(self):
        letters = (((2,), 1), ((0, 1), 1), ((1,), 2), ((0,), 1), ((1,), 1))
        day = Day(LINE, letters, ((2,), (1, 4), (3,), (2,), (2,)))
        self.assertEqual(waiting(day, 1), [(0, 1), (0, 3), (1, 4), (2, 0)])
        self.assertEqual(waiting(day, 2), [(0, 3), (1, 1), (1, 2), (1, 4), (2, 0)])
        self.assertEqual(waiting(day, 3), [(1, 1), (1, 2)])

    def test_edges_of_days(self):
        self.assertEqual(waiting(EMPTY, 1), [])
        self.assertEqual(waiting(sixty(), 1), [(0, number) for number in range(60)])
        self.assertEqual(waiting(sixty(), 60), [(0, 59)])
        self.assertEqual(waiting(sixty(), 61), [])

    def test_no_tick(self):
        for tick in ODD + [0, -1, -10 ** 39, [], (), {}, (1,), [1], "1", nested(list, 40)]:
            with self.subTest(name_of(tick)), self.assertRaises(NoTick):
                waiting(DAY, tick)

    def test_the_list_is_new(self):
        found = waiting(DAY, 2)
        self.assertEqual(found, [(0, 1), (1, 0)])
        found.append(None)
        self.assertEqual(waiting(DAY, 2), [(0, 1), (1, 0)])

    def test_days_that_were_returned_beyond_the_bounds(self):
        day = shifted(laid_over(sixty(), shifted(sixty(), 60)), 10 ** 7)
        self.assertEqual(waiting(day, 10 ** 7), [])
        self.assertEqual(waiting(day, 10 ** 7 + 60), [(0, 59)])
        self.assertEqual(waiting(day, 10 ** 7 + 61), [(0, number) for number in range(60, 120)])
        self.assertEqual(waiting(day, 10 ** 7 + 120), [(0, 119)])


if __name__ == "__main__":
    unittest.main()
