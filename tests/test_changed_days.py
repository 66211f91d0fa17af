"""Days that are led by ranks and holds, and days made of other days (2.3, 2.4)."""

import unittest

from hourcards.days import Day, laid_over, made_day, shifted, without
from hourcards.errors import BadDay, NoHolds, NoLetters, NoNumber, NoNumbers, NoRanks, OtherWeb
from hourcards.webs import Web
from tests.samples import BACK, DAY, EMPTY, FORK, LINE, ODD, name_of, nested
from tests.test_days import LETTERS, NO_LETTERS, sixty

# In the place of ranks of two letters, beside ODD.
NO_RANKS = [
    (), [], {}, 0, [0, 0], (0,), (0, 0, 0), (0, True), (False, 0), (0, None), (0, "0"), (0, (0,)), ((0, 0),), "00",
    b"\x00\x00", {0: 0, 1: 0}, (0, LINE), (0, nested(tuple, 39)), (0, [0]), range(2),
]
# In the place of holds of LETTERS (with 2 places and 1), beside ODD.
NO_HOLDS = [
    [], (), 0, "", [((0, 0), 1)], (((0, 0), 1),), {(0, 0): 0}, {(0, 0): -1}, {(0, 0): 10 ** 6 + 1},
    {(0, 0): 10 ** 39}, {(0, 0): True}, {(0, 0): None}, {(0, 0): "1"}, {(0, 0): (1,)}, {(0, 0): [1]}, {(0, 0): DAY},
    {(0, 2): 1}, {(1, 1): 1}, {(2, 0): 1}, {(-1, 0): 1}, {(0, -1): 1}, {(0, 10 ** 39): 1}, {(0,): 1},
    {(0, 0, 0): 1}, {(): 1}, {0: 1}, {None: 1}, {"00": 1}, {b"\x00\x00": 1}, {(True, 0): 1}, {(0, False): 1},
    {(False, False): 1}, {(0, "0"): 1}, {(0, (0,)): 1}, {((0, 0), 0): 1}, {(0, None): 1}, {(NoHolds(), 0): 1},
    {(0, 0): 1, (1, 1): 1}, {(1, 1): 1, (0, 0): 1}, {(0, 0): nested(list, 39)}, {nested(tuple, 39): 1},
]


def made_hours(web, letters, ranks, holds):
    return made_day(web, letters, ranks, holds).hours


class MadeDays(unittest.TestCase):

    def test_it_is_a_day_of_these_letters(self):
        day = made_day(LINE, DAY.letters, (0, 0), {})
        self.assertIsInstance(day, Day)
        self.assertEqual(sorted(vars(day)), ["hours", "letters", "web"])
        self.assertEqual(day, DAY)

    def test_the_least_rank_is_passed_first(self):
        letters = (((0, 1), 1), ((0,), 1))
        self.assertEqual(made_hours(LINE, letters, (5, 3), {}), ((2, 3), (1,)))
        self.assertEqual(made_hours(LINE, letters, (3, 5), {}), ((1, 2), (2,)))
        self.assertEqual(made_hours(LINE, letters, (10 ** 39, -10 ** 39), {}), ((2, 3), (1,)))

    def test_of_equal_ranks_the_least_number(self):
        letters = (((0,), 1),) * 4
        self.assertEqual(made_hours(LINE, letters, (7, 7, 7, 7), {}), ((1,), (2,), (3,), (4,)))
        self.assertEqual(made_hours(LINE, letters, (7, 0, 7, 0), {}), ((3,), (1,), (4,), (2,)))

    def test_as_many_as_there_are_rooms(self):
        # The road back has two rooms.
        self.assertEqual(made_hours(BACK, (((1,), 4),) * 3, (0, 0, -1), {}), ((4,), (5,), (4,)))
        self.assertEqual(made_hours(FORK, (((2,), 1),) * 5, (0,) * 5, {}), ((1,), (1,), (1,), (2,), (2,)))

    def test_no_road_waits_while_somebody_may_be_passed(self):
        # The letter with the least rank comes at 3; until then the road passes the others.
        letters = (((0,), 1), ((0,), 1), ((0,), 1), ((0,), 3))
        self.assertEqual(made_hours(LINE, letters, (1, 2, 3, 0), {}), ((1,), (2,), (4,), (3,)))

    def test_times_between_roads(self):
        # The road back takes three ticks, the road there one.
        self.assertEqual(made_hours(BACK, (((1, 0, 1), 2),), (0,), {}), ((2, 5, 6),))
        self.assertEqual(made_hours(BACK, (((0, 1) * 4, 10 ** 6),), (0,), {}),
                         (tuple([10 ** 6 + more for more in (0, 1, 4, 5, 8, 9, 12, 13)]),))

    def test_letters_meet_at_a_later_road(self):
        # Letter 1 is at road 1 at tick 2, when letter 0 comes there; letter 2 then meets it at tick 3.
        letters = (((1,), 2), ((0, 1), 1), ((1, 2), 3))
        self.assertEqual(made_hours(LINE, letters, (0, 0, 0), {}), ((2,), (1, 3), (4, 5)))
        self.assertEqual(made_hours(LINE, letters, (2, 1, 0), {}), ((4,), (1, 2), (3, 4)))

    def test_a_letter_is_not_passed_ahead_of_its_hold(self):
        letters = (((0, 1), 1), ((0, 1), 1))
        self.assertEqual(made_hours(LINE, letters, (0, 1), {(0, 0): 3}), ((3, 4), (1, 2)))
        self.assertEqual(made_hours(LINE, letters, (0, 1), {(0, 1): 10}), ((1, 10), (2, 3)))
        self.assertEqual(made_hours(LINE, letters, (0, 1), {(0, 0): 3, (1, 0): 3, (1, 1): 6}), ((3, 4), (4, 6)))

    def test_at_its_hold_a_letter_is_passed_by_its_rank(self):
        letters = (((0,), 1), ((0,), 3))
        self.assertEqual(made_hours(LINE, letters, (0, 1), {(0, 0): 3}), ((3,), (4,)))
        self.assertEqual(made_hours(LINE, letters, (1, 0), {(0, 0): 3}), ((4,), (3,)))
        self.assertEqual(made_hours(LINE, letters, (0, 1), {(0, 0): 4}), ((4,), (3,)))

    def test_a_hold_that_is_past_does_nothing(self):
        letters = (((0, 1), 5),)
        for holds in ({}, {(0, 0): 1}, {(0, 0): 5, (0, 1): 6}, {(0, 1): 1}):
            self.assertEqual(made_hours(LINE, letters, (0,), holds), ((5, 6),))

    def test_edges_of_holds(self):
        self.assertEqual(made_hours(LINE, (((0, 1), 1),), (0,), {(0, 0): 10 ** 6}), ((10 ** 6, 10 ** 6 + 1),))
        self.assertEqual(made_hours(LINE, (((0, 1), 10 ** 6),), (0,), {(0, 1): 10 ** 6}), ((10 ** 6, 10 ** 6 + 1),))
        self.assertEqual(made_hours(LINE, (((0, 1), 1),), (0,), {(0, 0): 10 ** 6, (0, 1): 10 ** 6}),
                         ((10 ** 6, 10 ** 6 + 1),))
        # Nobody waits where letter 0 is held, nor does anybody wait for letter 1.
        self.assertEqual(made_hours(LINE, (((0, 1), 1), ((2,), 1)), (0, 0), {(0, 1): 4, (1, 0): 9}), ((1, 4), (9,)))

    def test_edges_of_letters(self):
        self.assertEqual(made_day(LINE, (), (), {}), EMPTY)
        self.assertEqual(made_day(LINE, (((0,), 1),) * 60, (0,) * 60, {}), sixty())
        self.assertEqual(made_hours(BACK, (((0, 1, 0), 1), ((0,), 5)), (1, 0), {}), ((1, 2, 6), (5,)))

    def test_it_goes_as_a_look_at_every_tick_tells(self):
        seed = 1
        for _ in range(200):
            told = []
            for _ in range(40):
                seed = (seed * 1103515245 + 12345) % 2 ** 31
                told.append(seed >> 16)
            ways = ((0, 2, 3), (1, 2), (2, 3), (0, 4), (1,), (3,), (1, 4))
            letters = tuple([(ways[told[k] % 7], 1 + told[k + 8] % 5) for k in range(8)])
            ranks = tuple([told[k + 16] % 3 for k in range(8)])
            holds = {(k, 0): 1 + told[k + 32] % 9 for k in range(8) if told[k + 24] % 3 == 0}
            self.assertEqual(made_hours(FORK, letters, ranks, holds), looked_at(FORK, letters, ranks, holds))

    def test_the_order_of_the_keys_means_nothing_and_nothing_is_changed(self):
        letters = (((0, 1), 1), ((0, 1), 1))
        one, other = {(0, 0): 3, (1, 1): 6}, {(1, 1): 6, (0, 0): 3}
        self.assertEqual(made_day(LINE, letters, (0, 1), one), made_day(LINE, letters, (0, 1), other))
        self.assertEqual(list(one.items()), [((0, 0), 3), ((1, 1), 6)])
        self.assertEqual(list(other.items()), [((1, 1), 6), ((0, 0), 3)])

    def test_no_letters(self):
        for thing in ODD + NO_LETTERS:
            with self.subTest(name_of(thing)), self.assertRaises(NoLetters):
                made_day(LINE, thing, (0, 0), {})

    def test_no_ranks(self):
        for thing in ODD + NO_RANKS:
            with self.subTest(name_of(thing)), self.assertRaises(NoRanks):
                made_day(LINE, LETTERS, thing, {})
        with self.assertRaises(NoRanks):
            made_day(LINE, (), [], {})

    def test_no_holds(self):
        for thing in ODD + NO_HOLDS:
            with self.subTest(name_of(thing)), self.assertRaises(NoHolds):
                made_day(LINE, LETTERS, (0, 0), thing)
        with self.assertRaises(NoHolds):
            made_day(LINE, (), (), {(0, 0): 1})

    def test_the_order_of_the_errors(self):
        with self.assertRaises(NoLetters):
            made_day(LINE, None, None, None)
        with self.assertRaises(NoRanks):
            made_day(LINE, LETTERS, None, None)
        with self.assertRaises(NoHolds):
            made_day(LINE, LETTERS, (0, 0), None)


def looked_at(web, letters, ranks, holds):
    """The hours that 2.3 tells, tick by tick, road by road."""
    hours = [[] for _ in letters]
    for tick in range(1, 100):
        passed = []
        for road in range(len(web.roads)):
            here = []
            for number, (way, come) in enumerate(letters):
                place = len(hours[number])
                if place < len(way) and way[place] == road and holds.get((number, place), 0) <= tick:
                    if tick >= (hours[number][-1] + web.times[way[place - 1]] if place else come):
                        here.append((ranks[number], number))
            passed += sorted(here)[:web.rooms[road]]
        for _, number in passed:
            hours[number].append(tick)
    return tuple([tuple(row) for row in hours])


class Without(unittest.TestCase):

    def test_the_others_keep_their_hours(self):
        day = Day(LINE, (((0,), 1), ((0, 1), 1), ((0,), 1)), ((1,), (2, 3), (3,)))
        self.assertEqual(without(day, [0]), Day(LINE, (((0, 1), 1), ((0,), 1)), ((2, 3), (3,))))
        self.assertEqual(without(day, (1,)), Day(LINE, (((0,), 1), ((0,), 1)), ((1,), (3,))))
        self.assertEqual(without(day, (2, 0)), Day(LINE, (((0, 1), 1),), ((2, 3),)))
        self.assertEqual(without(day, [0, 1, 2]), EMPTY)

    def test_none_and_one_twice(self):
        self.assertEqual(without(DAY, []), DAY)
        self.assertEqual(without(DAY, ()), DAY)
        self.assertEqual(without(EMPTY, []), EMPTY)
        self.assertEqual(without(DAY, [1, 1]), Day(LINE, (((0, 1, 2), 1),), ((1, 2, 3),)))
        self.assertEqual(without(DAY, (0,) * 9999), Day(LINE, (((0,), 2),), ((2,),)))

    def test_no_numbers(self):
        wrong = [
            0, "", "0", {}, {0: 0}, {0: True}, [2], [-1], (0, 2), [0, -1], [True], (False,), [0, None], [0, "1"], [[0]],
            ((0,),), [10 ** 39], b"", b"\x00", range(1), [0, DAY], (0, nested(list, 39)),
        ]
        for thing in ODD + wrong:
            with self.subTest(name_of(thing)), self.assertRaises(NoNumbers):
                without(DAY, thing)
        with self.assertRaises(NoNumbers):
            without(EMPTY, [0])

    def test_nothing_is_changed(self):
        numbers = [1, 0, 1]
        without(DAY, numbers)
        self.assertEqual(numbers, [1, 0, 1])
        self.assertEqual(DAY, Day(LINE, (((0, 1, 2), 1), ((0,), 2)), ((1, 2, 3), (2,))))


class Shifted(unittest.TestCase):

    def test_all_ticks_and_hours_are_later(self):
        self.assertEqual(shifted(DAY, 10), Day(LINE, (((0, 1, 2), 11), ((0,), 12)), ((11, 12, 13), (12,))))
        self.assertEqual(shifted(DAY, 0), DAY)

    def test_back_to_tick_one_and_no_further(self):
        day = Day(LINE, (((0,), 7), ((1,), 4)), ((7,), (9,)))
        self.assertEqual(shifted(day, -3), Day(LINE, (((0,), 4), ((1,), 1)), ((4,), (6,))))
        for by in (-4, -7, -10 ** 39):
            with self.assertRaises(NoNumber):
                shifted(day, by)

    def test_a_day_without_letters_by_any_integer(self):
        for by in (0, 1, -1, 10 ** 39, -10 ** 39):
            self.assertEqual(shifted(EMPTY, by), EMPTY)

    def test_no_number(self):
        for day in (DAY, EMPTY):
            for by in ODD + [[], (), {}, (1,), [0], "1", b"1", {0: 0}, nested(tuple, 40)]:
                with self.subTest(name_of(by)), self.assertRaises(NoNumber):
                    shifted(day, by)


class LaidOver(unittest.TestCase):

    def test_the_letters_of_the_one_then_those_of_the_other(self):
        other = Day(LINE, (((0, 1), 3),), ((3, 4),))
        letters = (((0, 1, 2), 1), ((0,), 2), ((0, 1), 3))
        self.assertEqual(laid_over(DAY, other), Day(LINE, letters, ((1, 2, 3), (2,), (3, 4))))
        self.assertEqual(laid_over(other, DAY), Day(LINE, (letters[2],) + letters[:2], ((3, 4), (1, 2, 3), (2,))))

    def test_none_if_some_road_would_pass_too_many(self):
        self.assertIsNone(laid_over(DAY, DAY))
        self.assertIsNone(laid_over(DAY, Day(LINE, (((2,), 1),), ((3,),))))
        self.assertIsNotNone(laid_over(DAY, Day(LINE, (((2,), 1),), ((4,),))))
        one = Day(BACK, (((1,), 1),), ((1,),))
        self.assertEqual(laid_over(one, one), Day(BACK, (((1,), 1),) * 2, ((1,),) * 2))
        self.assertIsNone(laid_over(laid_over(one, one), one))

    def test_days_without_letters(self):
        self.assertEqual(laid_over(DAY, EMPTY), DAY)
        self.assertEqual(laid_over(EMPTY, DAY), DAY)
        self.assertEqual(laid_over(EMPTY, EMPTY), EMPTY)

    def test_webs_are_the_same_if_they_are_equal(self):
        web = Web(4, ((0, 1), (1, 2), (2, 3)), (1, 1, 1), (1, 1, 1))
        self.assertEqual(laid_over(Day(web, (), ()), DAY), DAY)

    def test_other_web(self):
        for web in (BACK, Web(5, LINE.roads, LINE.rooms, LINE.times), Web(4, LINE.roads, (2, 1, 1), LINE.times),
                    Web(4, LINE.roads, LINE.rooms, (1, 1, 2))):
            for one, other in ((DAY, Day(web, (), ())), (Day(web, (), ()), DAY)):
                with self.assertRaises(OtherWeb):
                    laid_over(one, other)

    def test_other_web_is_told_ahead_of_none(self):
        web = Web(5, LINE.roads, LINE.rooms, LINE.times)
        with self.assertRaises(OtherWeb):
            laid_over(DAY, Day(web, DAY.letters, DAY.hours))


class DaysOfAnySize(unittest.TestCase):

    def setUp(self):
        self.many = laid_over(sixty(), shifted(sixty(), 60))
        self.late = shifted(sixty(), 10 ** 39)

    def test_more_letters_and_later_ones_are_returned(self):
        self.assertEqual(len(self.many.letters), 120)
        self.assertEqual(self.many.letters, (((0,), 1),) * 60 + (((0,), 61),) * 60)
        self.assertEqual(self.many.hours, tuple([(hour,) for hour in range(1, 121)]))
        self.assertEqual(self.late.letters, (((0,), 10 ** 39 + 1),) * 60)
        self.assertEqual(self.late.hours, tuple([(10 ** 39 + hour,) for hour in range(1, 61)]))
        self.assertEqual(self.late.web, LINE)
        self.assertEqual(sorted(vars(self.many)), ["hours", "letters", "web"])

    def test_they_are_days_for_every_function(self):
        self.assertEqual(shifted(self.late, -10 ** 39), sixty())
        self.assertEqual(shifted(shifted(self.many, 10 ** 7), -10 ** 7), self.many)
        self.assertEqual(without(self.many, list(range(60))), shifted(sixty(), 60))
        self.assertEqual(without(self.many, list(range(60, 120))), sixty())
        self.assertEqual(len(without(self.many, [119]).letters), 119)
        self.assertEqual(len(laid_over(self.many, self.late).letters), 180)
        self.assertIsNone(laid_over(self.many, self.many))
        with self.assertRaises(NoNumbers):
            without(self.many, [120])
        with self.assertRaises(NoNumber):
            shifted(self.late, -10 ** 39 - 1)

    def test_they_are_equal_as_days_are(self):
        self.assertTrue(self.many == laid_over(sixty(), shifted(sixty(), 60)))
        self.assertFalse(self.many == self.late)
        self.assertFalse(self.many == sixty())

    def test_the_sizes_are_bounded_where_letters_are_passed(self):
        for day in (self.many, self.late):
            with self.assertRaises(BadDay) as caught:
                Day(LINE, day.letters, day.hours)
            self.assertEqual(caught.exception.part, "letters")
            with self.assertRaises(NoLetters):
                made_day(LINE, day.letters, (0,) * len(day.letters), {})


if __name__ == "__main__":
    unittest.main()
