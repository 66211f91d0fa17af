"""Traps (6.1, 6.2)."""

import random
import unittest

from hourcards import traps as module
from hourcards.cards import alike, cards
from hourcards.days import Day, laid_over, shifted, without
from hourcards.errors import NoLot, NoNumber, NoPlace, NoSort, TooMany
from hourcards.kinds import bad_places, is_enough
from hourcards.traps import is_trap, trap
from hourcards.webs import Web
from tests.drawn import drawn_web, is_tried_trap
from tests.samples import BACK, DAY, EMPTY, FORK, FOUR, LINE, ODD, RING, SIZED, name_of, nested
from tests.test_cards import NO_LOTS, NO_SORTS
from tests.test_days import sixty

SORTS = ("hours", "turns")
ROW = ("row", 0, 1, 2)
# By hand: letter 0 goes on to the road 3, letter 1 ends at road 1; letter 2 of the one day comes to road 2, that of
# the other to road 0. On the day letter 0 is ahead at road 0, on the other day letter 1.
BY_HAND = (
    Day(FOUR, (((0, 1, 2, 3), 1), ((0, 1), 1), ((2,), 4), ((2,), 5)), ((1, 2, 3, 6), (2, 3), (4,), (5,))),
    Day(FOUR, (((0, 1, 2, 3), 1), ((0, 1), 1), ((0,), 2)), ((3, 4, 5, 6), (1, 3), (2,))), 1)


def is_feasible(rooms, windows):
    """Whether a road with so many rooms can pass something in each window."""
    left = sorted(windows)
    tick = 0
    here = []
    while left or here:
        tick = max(tick + 1, left[0][0] if left and not here else 0)
        while left and left[0][0] <= tick:
            here.append(left.pop(0)[1])
        here.sort()
        for _ in range(min(rooms, len(here))):
            if here.pop(0) < tick:
                return False
    return True


def windows_at(day, road, late, numbers):
    """The windows in which these letters have to pass the road, ahead of which they pass none."""
    found = []
    for number in numbers:
        way, come = day.letters[number]
        if way[0] == road:
            rest = sum([day.web.times[other] for other in way[:-1]])
            found.append((come, day.hours[number][-1] + late - 1 - rest))
    return found


def is_counted_trap(day, other, until, place, late):
    """Whether counting the passings of the first road and of the last one shows that one of the days is lost.

    If more than some number of runners (letters that go through the place and on) pass the first road up to until,
    it cannot pass the others of the other day in time; if not, then it cannot pass so many in time, or so many come
    to the last road of the day so late that it cannot pass them.
    """
    web, first, last = day.web, place[1], place[-1]
    runners = [number for number, (way, come) in enumerate(day.letters) if way[:len(place) - 1] == place[1:]]
    many = len(runners)
    run = sum([web.times[road] for road in place[1:-1]])
    ends = [day.hours[number][-1] + late - 1 - web.times[last] for number in runners]
    others = windows_at(day, first, late, [number for number in range(len(day.letters)) if number not in runners])
    blocks = windows_at(day, last, late, range(len(day.letters)))
    second = windows_at(other, first, late, [number for number in range(len(other.letters)) if number not in runners])
    for most in range(many):
        if is_feasible(web.rooms[first], second + [(1, until)] * (most + 1)):
            continue
        for tick in range(until, until + 40):
            if is_second_lost(web, first, last, (many, most, until, tick, run), others, blocks, ends):
                return True
    return False


def is_second_lost(web, first, last, numbers, others, blocks, ends):
    """Whether the day is lost if at most so many runners are passed up to until."""
    many, most, until, tick, run = numbers
    for more in range(many - most + 1):
        if not is_feasible(web.rooms[first], others + [(until + 1, tick)] * more):
            return True
        rest = sorted(ends)[many - (many - most - more):]
        if is_feasible(web.rooms[last], blocks + [(tick + 1 + run, end) for end in rest]):
            return False
    return True


class Traps(unittest.TestCase):

    def check_form(self, web, lot, sort, ahead, found):
        self.assertIsInstance(found, tuple)
        day, other, until = found
        for led in (day, other):
            self.assertIsInstance(led, Day)
            self.assertEqual(led.web, web)
            if len(led.letters) <= 60:
                self.assertEqual(Day(web, led.letters, led.hours), led)
        self.assertIs(type(until), int)
        self.assertTrue(1 <= until <= 10 ** 6)
        self.assertIs(alike(day, other, lot, sort, until + ahead), True)
        # Longer days are lawful if they are so piece by piece.
        for led in (day, other):
            whole = EMPTY if web == LINE else Day(web, (), ())
            for begin in range(0, len(led.letters), 60):
                numbers = range(len(led.letters))
                piece = Day(web, led.letters[begin:begin + 60], led.hours[begin:begin + 60])
                whole = laid_over(whole, piece)
                self.assertIsNotNone(whole, numbers)
            self.assertEqual(whole, led)

    def test_the_example(self):
        self.assertIs(is_trap(FOUR, (), "hours", 0, 1, trap(FOUR, (), "hours", ROW, 0, 1)), True)

    def test_nobody_late_and_every_ahead_tried(self):
        rng = random.Random(61)
        seen = {}
        for number in range(500):
            web = drawn_web(rng)
            sort = SORTS[number % 2]
            lot = tuple([road for road in range(len(web.roads)) if rng.random() < 0.25])
            places = bad_places(web, lot, sort)
            ahead = rng.randint(0, 12)
            for place in rng.sample(places, min(2, len(places))):
                found = trap(web, lot, sort, place, ahead, 1)
                self.check_form(web, lot, sort, ahead, found)
                self.assertTrue(is_tried_trap(*found, 1), (web.roads, web.rooms, web.times, lot, place, ahead))
                kind = (sort, place[0], place[1] == place[-1])
                seen[kind] = seen.get(kind, 0) + 1
        for sort in SORTS:
            for kind in (("fork", False), ("row", False), ("row", True)):
                self.assertGreater(seen[(sort,) + kind], 10)

    def test_every_ahead_of_some_webs(self):
        webs = [(BACK, ("row", 0, 1, 0)), (BACK, ("row", 1, 0, 1)), (RING, ROW), (FOUR, ROW), (FORK, ("fork", 0, 2)),
                (FORK, ("fork", 1, 2)), (Web(2, ((0, 1), (1, 0)), (3, 3), (3, 3)), ("row", 0, 1, 0)),
                (Web(5, FOUR.roads, (3, 3, 3, 3), (3, 1, 2, 1)), ROW), (Web(5, FOUR.roads, (3, 1, 2, 1), (1, 3, 1, 2)), ROW)]
        for web, place in webs:
            for ahead in range(13):
                for sort in SORTS:
                    found = trap(web, (), sort, place, ahead, 1)
                    self.check_form(web, (), sort, ahead, found)
                    self.assertTrue(is_tried_trap(*found, 1))
                    if max(len(found[0].letters), len(found[1].letters)) <= 12:
                        self.assertIs(is_trap(web, (), sort, ahead, 1, found), True)

    def test_those_who_are_later_counted(self):
        rng = random.Random(62)
        seen = {}
        for number in range(400):
            web = drawn_web(rng)
            sort = SORTS[number % 2]
            lot = tuple([road for road in range(len(web.roads)) if rng.random() < 0.25])
            places = [place for place in bad_places(web, lot, sort) if place[1] != place[-1]]
            ahead, late = rng.randint(0, 12), rng.randint(1, 3)
            for place in rng.sample(places, min(1, len(places))):
                found = trap(web, lot, sort, place, ahead, late)
                self.check_form(web, lot, sort, ahead, found)
                self.assertTrue(is_counted_trap(*found, place, late), (web.roads, web.rooms, web.times, lot, place, ahead, late))
                kind = (sort, place[0], late)
                seen[kind] = seen.get(kind, 0) + 1
        self.assertEqual(len(seen), 12)

    def test_counting_is_no_proof_of_less(self):
        """That what is counted can fail: seen one tick further, or one tick later, the traps are none."""
        day, other, until = trap(FOUR, (), "hours", ROW, 0, 2)
        self.assertTrue(is_counted_trap(day, other, until, ROW, 2))
        self.assertFalse(is_counted_trap(day, other, until, ROW, 3))
        self.assertFalse(is_counted_trap(day, day, until, ROW, 2))
        self.assertFalse(is_counted_trap(other, other, until, ROW, 2))

    def test_two_ticks_late_with_twelve_letters(self):
        found = trap(FOUR, (), "hours", ROW, 0, 2)
        self.assertEqual(max(len(found[0].letters), len(found[1].letters)), 12)
        self.assertIs(is_trap(FOUR, (), "hours", 0, 2, found), True)
        self.assertIs(is_trap(FOUR, (), "hours", 0, 1, found), True)
        self.assertIs(is_trap(FOUR, (), "hours", 0, 3, found), False)

    def test_told_roads_beside_the_place(self):
        # Told: the way aside and the road on which all come home; for turns the last road of the place, too.
        web = Web(5, ((0, 1), (1, 2), (2, 3), (1, 4)), (2, 1, 1, 1), (1, 2, 1, 1))
        for sort, lot in (("hours", (2, 3)), ("turns", (2, 3)), ("turns", (1, 2, 3)), ("turns", (1,))):
            for late in (1, 2, 3):
                found = trap(web, lot, sort, ("fork", 0, 1), 2, late)
                self.check_form(web, lot, sort, 2, found)
                self.assertTrue(is_counted_trap(*found, ("fork", 0, 1), late))

    def test_errors_in_their_order(self):
        for thing in NO_LOTS:
            with self.subTest(name_of(thing)), self.assertRaises(NoLot):
                trap(LINE, thing, None, None, None, None)
        for thing in NO_SORTS:
            with self.subTest(name_of(thing)), self.assertRaises(NoSort):
                trap(FOUR, (), thing, None, None, None)
        wrong = [("row", False, True, 2), ("row", 0, True, 2), ["row", 0, 1, 2], ("row", 0, 1), ("fork", 0, 1),
                 ("row", 1, 2, 3), (b"row", 0, 1, 2), "row", (), ("row", 0, 1, 2, 3), ("row", (0,), 1, 2), {"row": 1}]
        for thing in ODD + wrong:
            with self.subTest(name_of(thing)), self.assertRaises(NoPlace):
                trap(FOUR, (), "hours", thing, None, None)
        for lot, sort in (((0,), "hours"), ((1,), "turns"), ((2,), "hours")):
            with self.assertRaises(NoPlace):
                trap(FOUR, lot, sort, ROW, 0, 1)
        self.assertEqual(len(trap(FOUR, (2,), "turns", ROW, 0, 1)), 3)
        for thing in ODD + [-1, 13, 10 ** 39, -10 ** 39, "0", (0,), [1]]:
            with self.subTest(name_of(thing)), self.assertRaises(NoNumber):
                trap(FOUR, (), "hours", ROW, thing, 1)
            with self.subTest(name_of(thing)), self.assertRaises(NoNumber):
                trap(FOUR, (), "hours", ROW, 0, thing)
        for late in (0, 4, 10 ** 39):
            with self.assertRaises(NoNumber):
                trap(FOUR, (), "hours", ROW, 12, late)
        for late in (2, 3, 0, 4, True):
            with self.assertRaises(NoNumber):
                trap(BACK, (), "hours", ("row", 0, 1, 0), 0, late)

    def test_equal_calls_give_equal_answers(self):
        self.assertEqual(trap(RING, (), "turns", ROW, 3, 2), trap(RING, (), "turns", ROW, 3, 2))

    def test_everything_is_defined_where_the_interface_lists_it(self):
        for name in ("trap", "is_trap"):
            self.assertEqual(getattr(module, name).__module__, "hourcards.traps")


class IsTrap(unittest.TestCase):

    def test_a_trap_made_by_hand(self):
        day, other, until = BY_HAND
        self.assertIs(is_trap(FOUR, (), "hours", 0, 1, BY_HAND), True)
        self.assertIs(is_trap(FOUR, (), "hours", 0, 1, (other, day, until)), True)
        self.assertIs(is_trap(FOUR, (), "turns", 0, 1, BY_HAND), True)
        # The letter of tick 2 tells the days apart.
        self.assertIs(is_trap(FOUR, (), "hours", 1, 1, BY_HAND), False)
        self.assertIs(is_trap(FOUR, (), "hours", 0, 1, (day, other, 2)), False)
        # Nobody has to be two ticks late.
        self.assertIs(is_trap(FOUR, (), "hours", 0, 2, BY_HAND), False)
        self.assertIs(is_trap(FOUR, (), "hours", 0, 10 ** 39, BY_HAND), False)
        self.assertIs(is_trap(FOUR, (), "hours", 10 ** 39, 1, BY_HAND), False)

    def test_told_roads_tell_the_days_apart(self):
        # Told hours of letter 0, that are 1 and 3, 2 and 4, 3 and 5; at road 3 they are alike.
        for road, right in ((0, False), (1, False), (2, False), (3, True)):
            self.assertIs(is_trap(FOUR, (road,), "hours", 0, 1, BY_HAND), right)
        # Turns: at road 0 those of the letters 0 and 1 are exchanged, at road 2 letter 0 is the first one on both days.
        for road, right in ((0, False), (1, False), (2, True), (3, True)):
            self.assertIs(is_trap(FOUR, (road,), "turns", 0, 1, BY_HAND), right)

    def test_shifted_and_with_others(self):
        day, other, until = BY_HAND
        self.assertIs(is_trap(FOUR, (), "hours", 0, 1, (shifted(day, 7), shifted(other, 7), until + 7)), True)
        # Up to a tick ahead of their coming nothing is decided, and behind it the days part.
        self.assertIs(is_trap(FOUR, (), "hours", 0, 1, (shifted(day, 7), shifted(other, 7), until)), False)
        self.assertIs(is_trap(FOUR, (), "hours", 10, 1, (shifted(day, 10 ** 39), shifted(other, 10 ** 39), 10 ** 6)), False)
        more = Day(FOUR, (((3,), 10 ** 6),), ((10 ** 6,),))
        self.assertIs(is_trap(FOUR, (), "hours", 0, 1, (laid_over(day, more), laid_over(other, more), until)), True)

    def test_without_some_letter_it_is_none(self):
        day, other, until = BY_HAND
        for number in range(4):
            self.assertIs(is_trap(FOUR, (), "hours", 0, 1, (without(day, [number]), other, until)), False)
        for number in range(3):
            self.assertIs(is_trap(FOUR, (), "hours", 0, 1, (day, without(other, [number]), until)), False)

    def test_days_that_are_no_trap(self):
        empty = Day(FOUR, (), ())
        for day in (empty,) + BY_HAND[:2]:
            for until in (1, 2, 5, 10 ** 6):
                self.assertIs(is_trap(FOUR, (), "hours", 0, 1, (day, day, until)), False)

    def test_things_that_are_none(self):
        day, other, until = BY_HAND
        wrong = [(), (day, other), (day, other, until, 0), [day, other, until], (until, day, other), (day, other, 0),
                 (day, other, -1), (day, other, 10 ** 6 + 1), (day, other, True), (day, other, None), (day, other, "1"),
                 (day, None, until), (None, other, until), (day, other, (1,)), (DAY, other, until), (day, DAY, until),
                 (day, SIZED, until), (day, (FOUR, other.letters, other.hours), until), {0: day}, ((day, other, until),),
                 (day, other, nested(tuple, 39)), (day, LINE, 1), day]
        for thing in ODD + wrong:
            with self.subTest(name_of(thing)):
                self.assertIs(is_trap(FOUR, (), "hours", 0, 1, thing), False)
        same = Web(5, FOUR.roads, FOUR.rooms, FOUR.times)
        self.assertIs(is_trap(same, (), "hours", 0, 1, BY_HAND), True)

    def test_too_many(self):
        many = Day(FOUR, (((3,), 9),) * 13, tuple([(9 + more,) for more in range(13)]))
        twelve = without(many, [12])
        self.assertIs(is_trap(FOUR, (), "hours", 0, 1, (twelve, twelve, 1)), False)
        for thing in ((many, twelve, 1), (twelve, many, 1), (many, many, 10 ** 6), (many, Day(FOUR, (), ()), 1)):
            with self.assertRaises(TooMany) as caught:
                is_trap(FOUR, (), "hours", 0, 1, thing)
            self.assertEqual(caught.exception.most, 12)
        for thing in ((many, twelve), [many, twelve, 1], (many, None, 1), (many, twelve, 0), (many, twelve, True),
                      (sixty(), sixty(), 1), (many, DAY, 1)):
            self.assertIs(is_trap(FOUR, (), "hours", 0, 1, thing), False)

    def test_twelve_letters_of_which_many_wait(self):
        day, other, until = BY_HAND
        more = Day(FOUR, (((3,), 1), ((3,), 1), ((3,), 1), ((3,), 1), ((3,), 1)), ((1,), (2,), (3,), (4,), (5,)))
        self.assertIs(is_trap(FOUR, (), "hours", 0, 1, (laid_over(day, more), laid_over(other, more), until)), False)
        order = (laid_over(more, day), laid_over(more, other), until)
        self.assertEqual(len(order[0].letters), 9)
        self.assertIs(is_trap(FOUR, (), "hours", 0, 1, order), True)

    def test_tried_through_all_ways_to_pass(self):
        rng = random.Random(63)
        found = {True: 0, False: 0}
        while min(found.values()) < 120:
            web = drawn_web(rng, 5, 6, 2)
            sort = rng.choice(SORTS)
            lot = tuple([road for road in range(len(web.roads)) if rng.random() < 0.25])
            places = bad_places(web, lot, sort)
            if not places:
                continue
            ahead, late = rng.choice([0, 0, 1]), 1
            day, other, until = trap(web, lot, sort, rng.choice(places), ahead, 1)
            for _ in range(rng.choice([0, 1, 1, 2])):
                day, other, until, late = self.changed(rng, day, other, until, late)
            if max(len(day.letters), len(other.letters)) > 7:
                continue
            right = alike(day, other, lot, sort, until + ahead) and is_tried_trap(day, other, until, late)
            self.assertIs(is_trap(web, lot, sort, ahead, late, (day, other, until)), right)
            found[right] += 1

    def changed(self, rng, day, other, until, late):
        step = rng.randrange(5)
        if step == 0 and day.letters:
            day = without(day, [rng.randrange(len(day.letters))])
        elif step == 1 and other.letters:
            other = without(other, [rng.randrange(len(other.letters))])
        elif step == 2:
            until = max(1, until + rng.choice([-1, 1]))
        elif step == 3:
            late = 2
        else:
            day, other = other, day
        return day, other, until, late

    def test_there_is_one_exactly_if_the_lot_is_not_enough(self):
        rng = random.Random(64)
        for _ in range(200):
            web = drawn_web(rng, 5, 6)
            for sort in SORTS:
                lot = tuple([road for road in range(len(web.roads)) if rng.random() < 0.3])
                places = bad_places(web, lot, sort)
                self.assertEqual(is_enough(web, sort, lot), not places)
                for place in places[:1]:
                    found = trap(web, lot, sort, place, 0, 1)
                    if max(len(found[0].letters), len(found[1].letters)) <= 12:
                        self.assertIs(is_trap(web, lot, sort, 0, 1, found), True)
                        # A lot that is enough has none, so it tells these days apart.
                        self.assertIs(is_trap(web, tuple(range(len(web.roads))), sort, 0, 1, found), False)

    def test_errors_in_their_order(self):
        for thing in NO_LOTS:
            with self.subTest(name_of(thing)), self.assertRaises(NoLot):
                is_trap(LINE, thing, None, None, None, None)
        for thing in NO_SORTS:
            with self.subTest(name_of(thing)), self.assertRaises(NoSort):
                is_trap(FOUR, (), thing, None, None, None)
        many = Day(FOUR, (((3,), 9),) * 13, tuple([(9 + more,) for more in range(13)]))
        for thing in ODD + [-1, -10 ** 39, "0", (0,), [1]]:
            with self.subTest(name_of(thing)), self.assertRaises(NoNumber):
                is_trap(FOUR, (), "hours", thing, 1, (many, many, 1))
            with self.subTest(name_of(thing)), self.assertRaises(NoNumber):
                is_trap(FOUR, (), "hours", 0, thing, (many, many, 1))
        with self.assertRaises(NoNumber):
            is_trap(FOUR, (), "hours", 0, 0, None)

    def test_nothing_is_changed(self):
        before = cards(BY_HAND[0], (), "hours"), cards(BY_HAND[1], (), "hours")
        is_trap(FOUR, (), "hours", 0, 1, BY_HAND)
        self.assertEqual((cards(BY_HAND[0], (), "hours"), cards(BY_HAND[1], (), "hours")), before)


if __name__ == "__main__":
    unittest.main()
