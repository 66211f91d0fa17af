"""Who can still be home in time (6.3)."""

import random
import unittest

from hourcards import saving as module
from hourcards.days import made_day, shifted
from hourcards.errors import NoHomes, NoHours, NoLetters, NoNumber, NoTick, TooMany
from hourcards.saving import savable
from hourcards.webs import Web
from tests.drawn import can_be_saved, drawn_day, drawn_web
from tests.samples import BACK, DAY, FOUR, LINE, ODD, SIZED, name_of, nested
from tests.test_days import LETTERS, NO_LETTERS

# In the place of hours of LETTERS (two places and one) that were passed ahead of tick 9, beside ODD.
NO_HOURS_SO_FAR = [
    (), [], {}, ((2, 4),), ((2, 4), (3,), (3,)), [(2, 4), (3,)], ([2, 4], (3,)), ((2, 4), [3]), ((2,), (3,)),
    ((2, 4, None), (3,)), ((2, 4), ()), ((2, 4), 3), ((2, 4), None), ((None, 4), (3,)), ((None, 4), (None,)),
    ((2, "4"), (3,)), ((True, 4), (3,)), ((2, False), (3,)), ((2, 4), (True,)), ((2, 4), (False,)), ((2, 4), "3"),
    ((2, 4), b"\x03"), ((2, (4,)), (3,)), ((2, [None]), (3,)), ((2, 4), (LINE,)), ((2, nested(list, 38)), (3,)),
    {0: (2, 4), 1: (3,)}, ((3,), (2, 4)), 0, "hours",
    # Early ..
    ((1, 4), (3,)), ((1, None), (3,)), ((2, 2), (3,)), ((2, 4), (2,)), ((0, None), (None,)), ((-1, None), (None,)),
    # .. and full.
    ((2, 4), (4,)), ((3, 5), (5,)),
    # Not ahead of the tick.
    ((2, 9), (3,)), ((9, None), (3,)), ((2, 4), (9,)), ((2, 10 ** 39), (3,)),
]


class Savable(unittest.TestCase):

    def test_by_hand(self):
        # Both wait for the only room of road 0; letter 0 goes on to road 1.
        letters = (((0, 1), 1), ((0,), 1))
        none = ((None, None), (None,))
        for homes, slack, right in (((2, 2), 0, True), ((3, 1), 0, True), ((2, 1), 0, False), ((2, 1), 1, True),
                                    ((1, 1), 0, False), ((1, 1), 1, True), ((1, 9), 0, False), ((0, 1), 2, True)):
            with self.subTest(homes, slack=slack):
                self.assertIs(savable(LINE, letters, homes, none, 1, slack), right)
        # At tick 2 it is later.
        self.assertIs(savable(LINE, letters, (3, 3), none, 2, 0), True)
        self.assertIs(savable(LINE, letters, (3, 2), none, 2, 0), False)
        self.assertIs(savable(LINE, letters, (4, 2), none, 2, 0), True)

    def test_what_was_passed_stays(self):
        letters = (((0, 1), 1), ((0,), 1))
        self.assertIs(savable(LINE, letters, (2, 1), ((1, None), (None,)), 2, 0), False)
        self.assertIs(savable(LINE, letters, (2, 2), ((1, None), (None,)), 2, 0), True)
        self.assertIs(savable(LINE, letters, (3, 1), ((None, None), (1,)), 2, 0), True)
        self.assertIs(savable(LINE, letters, (2, 1), ((None, None), (1,)), 2, 0), False)
        self.assertIs(savable(LINE, letters, (2, 1), ((None, None), (1,)), 2, 1), True)

    def test_those_who_are_home(self):
        letters = (((0, 1), 1),)
        for home, slack, right in ((3, 0, True), (2, 0, False), (2, 1, True), (10 ** 39, 0, True), (-5, 7, False),
                                   (-5, 8, True)):
            self.assertIs(savable(LINE, letters, (home,), ((1, 3),), 4, slack), right)
            self.assertIs(savable(LINE, letters, (home,), ((1, 3),), 10 ** 39, slack), right)

    def test_letters_that_come_later(self):
        # Letter 1 comes at 3, when letter 0 may still wait at the road.
        letters = (((0,), 1), ((0,), 3))
        none = ((None,), (None,))
        for homes, tick, right in (((2, 3), 1, True), ((2, 3), 2, True), ((2, 3), 3, False), ((3, 3), 3, False),
                                   ((4, 3), 3, True), ((3, 4), 3, True), ((2, 2), 1, False), ((4, 5), 4, True),
                                   ((4, 4), 4, False)):
            with self.subTest(homes, tick=tick):
                self.assertIs(savable(LINE, letters, homes, none, tick, 0), right)
        self.assertIs(savable(LINE, (((0,), 10 ** 6),), (10 ** 6,), ((None,),), 1, 0), True)
        self.assertIs(savable(LINE, (((0,), 10 ** 6),), (10 ** 6 - 1,), ((None,),), 1, 0), False)

    def test_rooms_and_times(self):
        # The road back has two rooms and takes three ticks.
        letters = (((1, 0), 1),) * 3
        none = ((None, None),) * 3
        self.assertIs(savable(BACK, letters, (4, 5, 6), none, 1, 0), True)
        self.assertIs(savable(BACK, letters, (4, 5, 5), none, 1, 0), False)
        self.assertIs(savable(BACK, letters, (4, 4, 6), none, 1, 0), False)
        self.assertIs(savable(BACK, letters, (5, 4, 6), ((2, None), (1, None), (1, None)), 3, 0), True)
        self.assertIs(savable(BACK, letters, (5, 4, 5), ((2, None), (1, None), (1, None)), 3, 0), False)
        self.assertIs(savable(BACK, letters, (4, 5, 6), ((2, None), (1, None), (1, None)), 3, 0), False)
        self.assertIs(savable(BACK, letters, (6, 4, 5), ((2, None), (1, None), (1, None)), 3, 0), True)

    def test_a_letter_that_is_passed_first_lets_another_wait(self):
        # Letter 0 has time, but its way is long; the least home is not passed first.
        letters = (((0, 1, 2, 3), 1), ((0,), 1))
        none = ((None,) * 4, (None,))
        self.assertIs(savable(FOUR, letters, (4, 2), none, 1, 0), True)
        self.assertIs(savable(FOUR, letters, (4, 1), none, 1, 0), False)

    def test_nobody(self):
        self.assertIs(savable(LINE, (), (), (), 1, 0), True)
        self.assertIs(savable(LINE, (), (), (), 10 ** 39, 10 ** 39), True)

    def test_a_far_tick_and_a_great_slack(self):
        letters = (((0, 1, 2), 1),) * 12
        none = ((None,) * 3,) * 12
        far = 10 ** 39
        self.assertIs(savable(LINE, letters, (far,) * 12, none, 1, 0), True)
        self.assertIs(savable(LINE, letters, (1,) * 12, none, 1, far), True)
        self.assertIs(savable(LINE, letters, (far + 13,) * 12, none, far, 0), True)
        self.assertIs(savable(LINE, letters, (far + 12,) * 12, none, far, 0), False)
        self.assertIs(savable(LINE, letters, (far + 12,) * 12, none, far, 1), True)

    def test_tried_through_all_ways_to_pass(self):
        rng = random.Random(65)
        found = {True: 0, False: 0}
        while min(found.values()) < 200:
            web = drawn_web(rng, 4, 5)
            day = drawn_day(rng, web, 4, 4)
            tick = rng.randint(1, 6)
            letters = tuple([(way, come) for way, come in day.letters])
            hours = tuple([tuple([hour if hour < tick else None for hour in row]) for row in day.hours])
            homes = tuple([row[-1] - rng.choice([0, 0, 0, 1, 2]) for row in day.hours])
            slack = rng.choice([0, 0, 1, 2])
            right = self.tried(web, letters, homes, hours, tick, slack)
            self.assertIs(savable(web, letters, homes, hours, tick, slack), right,
                          (web.roads, web.rooms, web.times, letters, homes, hours, tick, slack))
            found[right] += 1

    def tried(self, web, letters, homes, hours, tick, slack):
        state = []
        for (way, come), row in zip(letters, hours):
            known = [hour for hour in row if hour is not None]
            first = known[-1] + web.times[way[len(known) - 1]] if known else come
            state.append((len(known), first))
        return can_be_saved(web, [way for way, _ in letters], [home + slack for home in homes], tuple(state), tick)

    def test_each_day_is_savable_at_each_of_its_ticks(self):
        rng = random.Random(66)
        for _ in range(60):
            web = drawn_web(rng)
            day = drawn_day(rng, web, 12)
            homes = tuple([row[-1] for row in day.hours])
            for tick in range(1, 12):
                hours = tuple([tuple([hour if hour < tick else None for hour in row]) for row in day.hours])
                self.assertIs(savable(web, day.letters, homes, hours, tick, 0), True)

    def test_twelve_letters_that_all_part(self):
        # Six roads there and back between three houses; each letter goes its own way.
        web = Web(3, ((0, 1), (1, 2), (2, 0), (1, 0), (0, 2), (2, 1)), (1,) * 6, (1,) * 6)
        ways = ((0, 1, 2), (0, 3), (0, 1, 5), (1, 2, 4), (1, 5, 3), (1, 2), (2, 0, 3), (2, 4), (4, 5), (4, 2), (3, 4), (5, 1))
        letters = tuple([(way, 1) for way in ways])
        none = tuple([(None,) * len(way) for way in ways])
        led = made_day(web, letters, tuple(range(12)), {})
        homes = tuple([row[-1] for row in led.hours])
        self.assertIs(savable(web, letters, homes, none, 1, 0), True)
        # Three letters have three roads to go, and road 0 has one room for three letters that begin with it.
        self.assertIs(savable(web, letters, (2,) * 12, none, 1, 0), False)
        self.assertIs(savable(web, letters, (2,) * 12, none, 1, 9), True)


class Errors(unittest.TestCase):

    def assert_raises(self, error, *told):
        with self.assertRaises(error):
            savable(LINE, *told)

    def test_no_letters(self):
        for thing in ODD + NO_LETTERS:
            with self.subTest(name_of(thing)):
                self.assert_raises(NoLetters, thing, None, None, None, None)
        far = shifted(DAY, 10 ** 6)
        self.assert_raises(NoLetters, far.letters, (0, 0), far.hours, 1, 0)

    def test_no_homes(self):
        wrong = [(), (1,), (1, 2, 3), [1, 2], (1, True), (False, 2), (1, None), (1, "2"), (1, (2,)), ((1, 2),), {0: 1, 1: 2},
                 "12", b"12", (1, LINE), (1, nested(tuple, 39)), 0, 12, range(2)]
        for thing in ODD + wrong:
            with self.subTest(name_of(thing)):
                self.assert_raises(NoHomes, LETTERS, thing, None, None, None)
        self.assert_raises(NoHomes, (), [], (), 1, 0)

    def test_no_hours(self):
        for thing in ODD + NO_HOURS_SO_FAR:
            with self.subTest(name_of(thing)):
                self.assert_raises(NoHours, LETTERS, (9, 9), thing, 9, None)
        self.assert_raises(NoHours, (), (), [], 1, 0)
        self.assert_raises(NoHours, (), (), ((),), 1, 0)
        self.assert_raises(NoHours, (), (), None, 1, 0)

    def test_hours_so_far_that_are_right(self):
        for hours in (((2, 4), (3,)), ((2, None), (3,)), ((None, None), (3,)), ((None, None), (None,)), ((7, 8), (6,))):
            with self.subTest(hours):
                self.assertIs(savable(LINE, LETTERS, (99, 99), hours, 9, 0), True)
        # One tick further on it is not ahead of the tick.
        self.assert_raises(NoHours, LETTERS, (99, 99), ((7, 8), (6,)), 8, 0)

    def test_what_is_no_tick_bounds_no_hours(self):
        for thing in ODD + [0, -1, -10 ** 39, "9", (9,), [9]]:
            with self.subTest(name_of(thing)):
                self.assert_raises(NoTick, LETTERS, (9, 9), ((2, 10 ** 39), (3,)), thing, None)
                self.assert_raises(NoTick, LETTERS, (9, 9), ((None, None), (None,)), thing, None)
                # What is early or full is no hours, whatever the tick is.
                self.assert_raises(NoHours, LETTERS, (9, 9), ((1, 4), (3,)), thing, None)
                self.assert_raises(NoHours, LETTERS, (9, 9), ((2, 4), (4,)), thing, None)
        for tick in (0, -1, True):
            self.assert_raises(NoTick, (), (), (), tick, 0)

    def test_no_number_then_too_many(self):
        many = (((0,), 1),) * 13
        homes, hours = (99,) * 13, ((None,),) * 13
        for thing in ODD + [-1, -10 ** 39, "0", (0,), [0]]:
            with self.subTest(name_of(thing)):
                self.assert_raises(NoNumber, LETTERS, (9, 9), ((None, None), (None,)), 1, thing)
                self.assert_raises(NoNumber, many, homes, hours, 1, thing)
        with self.assertRaises(TooMany) as caught:
            savable(LINE, many, homes, hours, 1, 0)
        self.assertEqual(caught.exception.most, 12)
        with self.assertRaises(TooMany):
            savable(LINE, (((0,), 1),) * 60, (99,) * 60, ((None,),) * 60, 1, 0)
        self.assertIs(savable(LINE, many[:12], (12,) * 12, hours[:12], 1, 0), True)
        self.assertIs(savable(LINE, many[:12], (11,) * 12, hours[:12], 1, 0), False)
        self.assert_raises(NoLetters, many * 5, (99,) * 65, ((None,),) * 65, 1, 0)
        self.assert_raises(NoHomes, many, homes[:12], hours, 1, 0)
        self.assert_raises(NoHours, many, homes, hours[:12], 1, 0)
        self.assert_raises(NoTick, many, homes, hours, 0, 0)

    def test_it_is_defined_where_the_interface_lists_it(self):
        self.assertEqual(module.savable.__module__, "hourcards.saving")
        self.assertIs(SIZED == module, False)


if __name__ == "__main__":
    unittest.main()
