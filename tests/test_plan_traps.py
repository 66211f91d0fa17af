"""Traps of the gaps of plans (9.2)."""

import random
import unittest

from hourcards.days import Day, day_of_any_size, laid_over, shifted, without
from hourcards.errors import NoGap, NoNumber, NoPlan, TooMany
from hourcards.plans import is_plan_trap, plan_cards, plan_gaps, plan_trap
from hourcards.webs import Web
from tests.drawn import drawn_day, drawn_web, is_tried_trap
from tests.samples import DAY, EMPTY, FOUR, LINE, ODD, SIZED, name_of, nested
from tests.test_plans import ALL, LAST, LEAST, NO_PLANS, drawn_plan, plan_with

# The plan with the one gap (3, 0).
GAP = plan_with((3, (2,)))
# Road 0, then the alike roads 1 and 3, then 2. Letters 0 and 1 come to road 0 and part behind it; on the day another one
# comes to road 1 at 3, on the other day to road 3.
PARTING = Web(4, ((0, 1), (1, 2), (2, 3), (1, 2)), (1, 1, 2, 1), (1, 1, 1, 1))
LETTERS = (((0, 1, 2), 1), ((0, 3, 2), 1))
BY_HAND = (PARTING, Day(PARTING, LETTERS + (((1,), 3),), ((1, 2, 4), (2, 3, 4), (3,))),
           Day(PARTING, LETTERS + (((3,), 3),), ((2, 3, 4), (1, 2, 4), (3,))), 1)


def is_alike(plan, day, other, tick):
    """As 3.2 says of cards, here by the plan."""
    one, two = [[(letter, card) for letter, card in enumerate(plan_cards(led, plan)) if card[1] <= tick]
                for led in (day, other)]
    return one == two


class Traps(unittest.TestCase):

    def check(self, plan, length, place, ahead, tried):
        found = plan_trap(plan, length, place, ahead)
        self.assertIsInstance(found, tuple)
        web, day, other, until = found
        self.assertEqual(web, Web(web.houses, web.roads, web.rooms, web.times))
        for led in (day, other):
            self.assertEqual(led.web, web)
            self.assertEqual(led, Day(web, led.letters, led.hours))
        self.assertIs(type(until), int)
        self.assertTrue(1 <= until <= 10 ** 6)
        self.assertTrue(is_alike(plan, day, other, until + ahead))
        self.assertIs(is_plan_trap(plan, ahead, found), True)
        if tried:
            self.assertTrue(is_tried_trap(day, other, until, 1))

    def test_every_gap_and_every_ahead(self):
        gaps = [(length, place) for length in range(3, 9) for place in range(length - 2)]
        self.assertEqual(plan_gaps(LAST), gaps)
        for length, place in gaps:
            for ahead in range(13):
                with self.subTest(length=length, place=place, ahead=ahead):
                    # Where they come late to the gap there are many ways to pass them up to there.
                    self.check(LAST, length, place, ahead, place < 3 or ahead == 12)

    def test_plans_with_one_gap_and_with_several(self):
        for length in range(3, 9):
            for place in range(length - 2):
                # All places but the two of the gap are told.
                plan = list(ALL)
                plan[length - 1] = tuple([other for other in range(length) if other not in (place, place + 1)])
                self.assertEqual(plan_gaps(tuple(plan)), [(length, place)])
                for ahead in (0, 5, 12):
                    self.check(tuple(plan), length, place, ahead, place < 2)
        rng = random.Random(94)
        for _ in range(60):
            plan = drawn_plan(rng, False)
            for length, place in plan_gaps(plan):
                self.check(plan, length, place, rng.randint(0, 12), False)

    def test_no_plan(self):
        for thing in ODD + NO_PLANS:
            with self.subTest(name_of(thing)), self.assertRaises(NoPlan):
                plan_trap(thing, None, None, None)

    def test_no_gap(self):
        for plan, length, place in ((LEAST, 3, 0), (ALL, 8, 0), (GAP, 3, 1), (GAP, 4, 0), (GAP, 2, 0), (GAP, 0, 3), (LAST, 3, 1),
                                    (LAST, 8, 6), (LAST, 9, 0), (LAST, 8, -1), (LAST, 2, 0), (LAST, -8, 0), (LAST, 10 ** 39, 0)):
            with self.subTest(length=length, place=place), self.assertRaises(NoGap):
                plan_trap(plan, length, place, None)
        for thing in ODD + ["3", (3,), [3], (3, 0), nested(list, 39), b"\x03"]:
            with self.subTest(name_of(thing)):
                with self.assertRaises(NoGap):
                    plan_trap(GAP, thing, 0, 0)
                with self.assertRaises(NoGap):
                    plan_trap(GAP, 3, thing, 0)
        # A flag is no place, be it equal to one.
        for place in (False, True):
            with self.assertRaises(NoGap):
                plan_trap(LAST, 4, place, 0)

    def test_no_number(self):
        for thing in ODD + [-1, 13, 10 ** 39, "0", (0,), [0]]:
            with self.subTest(name_of(thing)), self.assertRaises(NoNumber):
                plan_trap(GAP, 3, 0, thing)

    def test_equal_calls_give_equal_answers(self):
        self.assertEqual(plan_trap(GAP, 3, 0, 4), plan_trap(GAP, 3, 0, 4))


class IsPlanTrap(unittest.TestCase):

    def test_a_trap_made_by_hand(self):
        web, day, other, until = BY_HAND
        self.assertTrue(is_tried_trap(day, other, until, 1))
        for ahead, right in ((0, True), (1, True), (2, False), (10 ** 39, False)):
            self.assertIs(is_plan_trap(GAP, ahead, BY_HAND), right)
            self.assertIs(is_plan_trap(GAP, ahead, (web, other, day, until)), right)
        # At tick 2 it is known what comes, or too much has been passed.
        self.assertIs(is_plan_trap(GAP, 0, (web, day, other, 2)), True)
        self.assertIs(is_plan_trap(GAP, 0, (web, day, other, 3)), False)

    def test_told_places_tell_the_days_apart(self):
        for plan in (LEAST, ALL, plan_with((3, (1, 2)))):
            self.assertIs(is_plan_trap(plan, 0, BY_HAND), False)
        self.assertIs(is_plan_trap(LAST, 0, BY_HAND), True)

    def test_without_some_letter_it_is_none(self):
        web, day, other, until = BY_HAND
        for number in range(3):
            self.assertIs(is_plan_trap(GAP, 0, (web, without(day, [number]), without(other, [number]), until)), False)
        self.assertIs(is_plan_trap(GAP, 0, (web, day, day, until)), False)
        self.assertIs(is_plan_trap(GAP, 0, (web, Day(web, (), ()), Day(web, (), ()), until)), False)

    def test_it_is_moved_on(self):
        web, day, other, until = BY_HAND
        for by in (1, 10 ** 6 - 1):
            self.assertIs(is_plan_trap(GAP, 1, (web, shifted(day, by), shifted(other, by), until + by)), True)
        # As far as a tick may be, and no further.
        self.assertIs(is_plan_trap(GAP, 1, (web, shifted(day, 10 ** 6), shifted(other, 10 ** 6), until + 10 ** 6)), False)

    def test_things_that_are_none(self):
        web, day, other, until = BY_HAND
        wrong = [
            list(BY_HAND), BY_HAND[:3], BY_HAND[1:], BY_HAND + (None,), (BY_HAND,), (None,) + BY_HAND[1:], (LINE,) + BY_HAND[1:],
            (web, None, other, until), (web, day, None, until), (web, DAY, other, until), (web, day, EMPTY, until),
            (web, day, other, None), (web, day, other, True), (web, day, other, 0), (web, day, other, -1), (web, day, other, "1"),
            (web, day, other, 10 ** 6 + 1), (day, web, other, until), (web, [day], other, until), (web, day, SIZED, until),
            (web, day, other, (1,)), (SIZED,) + BY_HAND[1:], (web.roads,) + BY_HAND[1:], (web, web, web, 1), {0: web},
            (web, nested(tuple, 39), other, until), (nested(list, 39),) + BY_HAND[1:],
        ]
        for thing in ODD + wrong:
            with self.subTest(name_of(thing)):
                self.assertIs(is_plan_trap(GAP, 0, thing), False)

    def test_too_many(self):
        web, day, other, until = BY_HAND
        more = tuple([((2,), tick) for tick in range(20, 30)])
        hours = tuple([(tick,) for tick in range(20, 30)])
        nine, ten = [Day(web, more[:many], hours[:many]) for many in (9, 10)]
        twelve = (web, laid_over(day, nine), laid_over(other, nine), until)
        self.assertEqual(len(twelve[1].letters), 12)
        self.assertIs(is_plan_trap(GAP, 0, twelve), True)
        for days in ((laid_over(day, ten), laid_over(other, nine)), (laid_over(day, nine), laid_over(other, ten)),
                     (laid_over(day, ten), laid_over(other, ten)), (laid_over(day, ten), EMPTY.__class__(web, (), ()))):
            with self.assertRaises(TooMany) as caught:
                is_plan_trap(GAP, 0, (web,) + days + (until,))
            self.assertEqual(caught.exception.most, 12)
        # Days that are alike up to no tick have too many letters all the same.
        with self.assertRaises(TooMany):
            is_plan_trap(ALL, 0, (web, laid_over(day, ten), other, until))
        # What is no such tuple has not too many letters.
        large = laid_over(day, ten)
        for thing in ((web, large, large, 0), (web, large, large, True), (LINE, large, large, 1), (web, large, DAY, 1),
                      [web, large, large, 1], (web, large, large)):
            self.assertIs(is_plan_trap(GAP, 0, thing), False)

    def test_errors_in_their_order(self):
        large = Day(LINE, (((0,), 1),) * 13, tuple([(hour,) for hour in range(1, 14)]))
        thing = (LINE, large, large, 1)
        for plan in ODD + NO_PLANS:
            with self.subTest(name_of(plan)), self.assertRaises(NoPlan):
                is_plan_trap(plan, None, thing)
        for ahead in ODD + [-1, -10 ** 39, "0", (0,), [0]]:
            with self.subTest(name_of(ahead)), self.assertRaises(NoNumber):
                is_plan_trap(GAP, ahead, thing)
        with self.assertRaises(TooMany):
            is_plan_trap(GAP, 0, thing)
        # A plan that is enough has no traps, but things are judged by it likewise.
        with self.assertRaises(TooMany):
            is_plan_trap(LEAST, 10 ** 39, thing)

    def test_drawn_days_are_tried(self):
        rng = random.Random(95)
        seen = {True: 0, False: 0}
        for _ in range(4000):
            web = drawn_web(rng, 4, 5, 2)
            plan = drawn_plan(rng, False)
            day, other = drawn_day(rng, web, 4, 4), drawn_day(rng, web, 4, 4)
            # The same letters with other hours, and another one at the end of each.
            if len(day.letters) > 1:
                other = self.led_again(rng, day)
            until = rng.randint(1, 3)
            tried = is_alike(plan, day, other, until) and is_tried_trap(day, other, until, 1)
            seen[tried] += 1
            self.assertIs(is_plan_trap(plan, 0, (web, day, other, until)), tried)
        self.assertGreater(seen[False], 1000)

    def led_again(self, rng, day):
        """Another day of these letters with as many of their hours as there may be, or this one."""
        hours = list(day.hours)
        for letter in rng.sample(range(len(hours)), 2):
            hours[letter] = tuple([hour - rng.randint(0, 1) for hour in hours[letter][:-1]]) + hours[letter][-1:]
        try:
            return Day(day.web, day.letters, tuple(hours))
        except ValueError:
            return day

    def test_drawn_traps_lose_some_letters(self):
        rng = random.Random(96)
        seen = {True: 0, False: 0}
        for _ in range(150):
            plan = drawn_plan(rng, False)
            gaps = plan_gaps(plan)
            if not gaps:
                continue
            web, day, other, until = plan_trap(plan, *rng.choice(gaps), rng.randint(0, 9))
            kept = [number for number in range(len(day.letters)) if rng.random() < 0.1]
            one, two = without(day, kept), without(other, kept)
            until += rng.choice([0, 0, 1])
            tried = is_alike(plan, one, two, until) and is_tried_trap(one, two, until, 1)
            seen[tried] += 1
            self.assertIs(is_plan_trap(plan, 0, (web, one, two, until)), tried)
        self.assertGreater(min(seen.values()), 20)

    def test_letters_beyond_the_bounds(self):
        web, day, other, until = plan_trap(GAP, 3, 0, 0)
        late = [day_of_any_size(web, led.letters + ((((0,), 10 ** 8)),), led.hours + ((10 ** 8,),)) for led in (day, other)]
        self.assertIs(is_plan_trap(GAP, 0, (web, late[0], late[1], until)), True)


if __name__ == "__main__":
    unittest.main()
