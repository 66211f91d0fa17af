"""Halls, led by hand (5.1)."""

import itertools
import random
import unittest

from hourcards import halls as module
from hourcards.cards import cards
from hourcards.days import Day
from hourcards.errors import NoCard, NoLot, NoSort, NotEnough, NothingDone
from hourcards.halls import Hall
from hourcards.webs import Web
from tests.drawn import drawn_day, drawn_lot, drawn_web
from tests.samples import BACK, DAY, FOUR, LINE, ODD, SIZED, name_of, nested
from tests.test_cards import NO_LOTS, NO_SORTS

METHODS = ("now", "come", "tick", "waiting", "so_far", "left", "back", "depth", "copy", "trying")


def shown(hall):
    """All that a hall tells."""
    return hall.now(), hall.waiting(), hall.so_far(), hall.left(), hall.depth()


class Made(unittest.TestCase):

    def test_a_new_hall(self):
        hall = Hall(LINE, (), "hours")
        self.assertEqual(shown(hall), (1, [], (), 0, 0))
        self.assertEqual(hall.tick(), [])
        self.assertEqual(shown(hall), (2, [], (), 0, 1))

    def test_methods_are_defined_in_the_class(self):
        self.assertEqual(Hall.__module__, "hourcards.halls")
        for name in METHODS:
            self.assertIn(name, vars(Hall))
        for name in ("played", "missed"):
            self.assertEqual(getattr(module, name).__module__, "hourcards.halls")

    def test_the_errors_in_their_order(self):
        for thing in NO_LOTS:
            with self.subTest(name_of(thing)), self.assertRaises(NoLot):
                Hall(LINE, thing, None)
        for thing in NO_SORTS:
            with self.subTest(name_of(thing)), self.assertRaises(NoSort):
                Hall(FOUR, (), thing)
        for web, lot, sort, place in (
                (FOUR, (), "hours", ("row", 0, 1, 2)), (FOUR, (2,), "turns", ("row", 0, 1, 2)),
                (BACK, (), "turns", ("row", 0, 1, 0))):
            with self.assertRaises(NotEnough) as caught:
                Hall(web, lot, sort)
            self.assertEqual(caught.exception.place, place)

    def test_of_several_bad_places_the_first(self):
        web = Web(5, ((0, 1), (1, 2), (1, 3), (2, 4)), (1,) * 4, (1,) * 4)
        longer = Web(7, web.roads + ((4, 5), (5, 6)), (1,) * 6, (1,) * 6)
        with self.assertRaises(NotEnough) as caught:
            Hall(longer, (), "hours")
        self.assertEqual(caught.exception.place, ("fork", 0, 1))
        with self.assertRaises(NotEnough) as caught:
            Hall(longer, (0,), "hours")
        self.assertEqual(caught.exception.place, ("row", 1, 3, 4))

    def test_equal_to_nothing_of_another_class_or_kind(self):
        hall = Hall(LINE, (), "hours")
        for thing in ODD:
            self.assertIs(hall == thing, False)


class Led(unittest.TestCase):

    def test_the_day_of_the_examples(self):
        hall = Hall(LINE, (), "hours")
        first, second = cards(DAY, (), "hours")
        hall.come(first)
        self.assertEqual(shown(hall), (1, [(0, 0)], ((None, None, None),), 1, 1))
        self.assertEqual(hall.tick(), [(0, 0)])
        hall.come(second)
        self.assertEqual(shown(hall), (2, [(0, 1), (1, 0)], ((1, None, None), (None,)), 2, 3))
        self.assertEqual(hall.tick(), [(0, 1), (1, 0)])
        self.assertEqual(shown(hall), (3, [(2, 0)], ((1, 2, None), (2,)), 1, 4))
        self.assertEqual(hall.tick(), [(2, 0)])
        self.assertEqual(shown(hall), (4, [], ((1, 2, 3), (2,)), 0, 5))
        self.assertEqual(hall.tick(), [])

    def test_a_letter_is_between_roads_for_as_long_as_the_road_takes(self):
        hall = Hall(BACK, (0,), "hours")
        hall.come(((1, 0), 1, 4, (None, 4)))
        self.assertEqual(hall.tick(), [(1, 0)])
        self.assertEqual([(hall.waiting(), hall.tick()) for _ in range(4)],
                         [([], []), ([], []), ([(0, 0)], [(0, 0)]), ([], [])])

    def test_told_roads_go_by_their_hours(self):
        # Letters that come later have earlier hours.
        hall = Hall(LINE, (0, 1, 2), "hours")
        for hour in (5, 3, 4):
            hall.come(((0,), 1, hour, (hour,)))
        passed = [hall.tick() for _ in range(5)]
        self.assertEqual([pair for pairs in passed for pair in pairs], [(0, 1), (0, 2), (0, 0)])

    def test_a_second_road_goes_by_what_is_told_behind_it(self):
        # Road 0 is silent, road 1 told: letter 1 is to be there first, letter 2 ends at 0 at hour 2.
        hall = Hall(LINE, (1,), "hours")
        hall.come(((0, 1), 1, 9, (None, 9)))
        hall.come(((0, 1), 1, 2, (None, 2)))
        hall.come(((0,), 1, 2, (None,)))
        self.assertEqual(hall.tick(), [(0, 1)])
        self.assertEqual(hall.tick(), [(0, 2), (1, 1)])

    def test_a_first_road_keeps_its_room_for_those_who_end_there_at_their_hour(self):
        # Road 0 is first, road 1 second. Letter 0 ends at 0 at hour 2 and waits until then, though 1 may take longer.
        hall = Hall(LINE, (), "hours")
        hall.come(((0,), 1, 2, (None,)))
        hall.come(((0, 1, 2), 1, 9, (None, None, None)))
        hall.come(((0, 1, 2), 1, 7, (None, None, None)))
        self.assertEqual(hall.tick(), [(0, 2)])
        self.assertEqual(hall.tick(), [(0, 0), (1, 2)])
        self.assertEqual(hall.tick(), [(0, 1), (2, 2)])

    def test_told_roads_pass_letters_in_their_turns(self):
        hall = Hall(FOUR, (1,), "turns")
        # Letter 0 waits for its turn at road 1; letter 1, which comes later, is the first one there.
        hall.come(((1,), 1, 3, (1,)))
        self.assertEqual(hall.tick(), [])
        hall.come(((0, 1), 2, 3, (None, 0)))
        self.assertEqual(hall.waiting(), [(0, 1), (1, 0)])
        self.assertEqual(hall.tick(), [(0, 1)])
        self.assertEqual(hall.tick(), [(1, 1)])
        self.assertEqual(hall.tick(), [(1, 0)])
        self.assertEqual(hall.so_far(), ((4,), (2, 3)))

    def test_several_turns_in_one_tick(self):
        web = Web(3, ((0, 1), (1, 2)), (2, 1), (1, 1))
        hall = Hall(web, (0,), "turns")
        for turn in (2, 0, 1, 4):
            hall.come(((0,), 1, 2, (turn,)))
        self.assertEqual(hall.tick(), [(0, 1), (0, 2)])
        self.assertEqual(hall.tick(), [(0, 0)])
        self.assertEqual(hall.tick(), [])
        self.assertEqual((hall.left(), hall.waiting()), (1, [(0, 3)]))

    def test_a_queue_goes_by_the_turns_behind_it(self):
        hall = Hall(FOUR, (1,), "turns")
        hall.come(((0, 1, 2), 1, 9, (None, 1, None)))
        hall.come(((0, 1, 2), 1, 20, (None, 0, None)))
        hall.come(((0,), 1, 2, (None,)))
        self.assertEqual(hall.tick(), [(0, 1)])
        self.assertEqual(hall.tick(), [(0, 2), (1, 1)])
        self.assertEqual(hall.tick(), [(0, 0), (2, 1)])

    def test_a_letter_whose_home_is_the_least_that_it_alone_could_have(self):
        hall = Hall(FOUR, (1,), "hours")
        for _ in range(3):
            hall.tick()
        hall.come(((0, 1, 2, 3), 4, 7, (None, 5, None, None)))
        for _ in range(4):
            hall.tick()
        self.assertEqual(hall.so_far(), ((4, 5, 6, 7),))

    def test_lists_are_new(self):
        hall = Hall(LINE, (), "hours")
        hall.come(((0,), 1, 1, (None,)))
        hall.waiting().append(None)
        self.assertEqual(hall.waiting(), [(0, 0)])
        passed = hall.tick()
        passed.append((7, 7))
        hall.back()
        self.assertEqual(hall.waiting(), [(0, 0)])
        self.assertEqual(hall.tick(), [(0, 0)])


class Come(unittest.TestCase):

    def test_a_card_that_comes_at_another_tick(self):
        hall = Hall(LINE, (), "hours")
        hall.tick()
        for come in (1, 3, 10 ** 39):
            with self.assertRaises(NoCard):
                hall.come(((0,), come, 10 ** 39, (None,)))
        hall.come(((0,), 2, 2, (None,)))
        self.assertEqual(hall.left(), 1)

    def test_no_card(self):
        right = ((0, 1), 1, 2, (1, None))
        hall = Hall(LINE, (0,), "hours")
        hall.come(right)
        before = shown(hall)
        wrong = [list(right), (), right[:3], right + (None,), (right,), ((0, 2),) + right[1:], ((0,),) + right[1:],
                 ((0, True),) + right[1:], ([0, 1],) + right[1:], (right[0], True, 2, (1, None)), (right[0], 0, 2, (1, None)),
                 (right[0], "1", 2, (1, None)), right[:2] + (1, (1, None)), right[:2] + (True, (1, None)),
                 right[:2] + (None, (1, None)), right[:3] + ((None, None),), right[:3] + ((1, 2),), right[:3] + ([1, None],),
                 right[:3] + ((True, None),), right[:3] + ((0, None),), right[:3] + ((2, None),), right[:3] + ((1,),),
                 right[:3] + ({0: 1},), right[:3] + ("12",), right[:3] + (nested(tuple, 39),), {0: right}, "card", SIZED,
                 ((0, 1), 1, 1, 2, (1, None))]
        for thing in ODD + wrong:
            with self.subTest(name_of(thing)), self.assertRaises(NoCard):
                hall.come(thing)
            self.assertEqual(shown(hall), before)
        self.assertEqual(hall.tick(), [(0, 0)])

    def test_a_card_of_the_other_sort(self):
        with self.assertRaises(NoCard):
            Hall(LINE, (0,), "hours").come(((0, 1), 1, 2, (0, None)))
        Hall(LINE, (0,), "turns").come(((0, 1), 1, 2, (0, None)))


class Back(unittest.TestCase):

    def setUp(self):
        self.hall = Hall(FOUR, (1,), "turns")
        self.steps = [shown(self.hall)]
        for card in (((0, 1), 1, 9, (None, 1)), ((0, 1), 1, 3, (None, 0)), None, None, ((0,), 3, 9, (None,)), None, None):
            if card is None:
                self.hall.tick()
            else:
                self.hall.come(card)
            self.steps.append(shown(self.hall))

    def test_back_to_the_beginning(self):
        for before in reversed(self.steps):
            self.assertEqual(shown(self.hall), before)
            if before[-1]:
                self.hall.back()
        for _ in range(2):
            with self.assertRaises(NothingDone):
                self.hall.back()
            self.assertEqual(shown(self.hall), self.steps[0])

    def test_back_and_on_again(self):
        end = shown(self.hall)
        for many in range(1, 3):
            for _ in range(many):
                self.hall.back()
            for _ in range(many):
                self.hall.tick()
            self.assertEqual(shown(self.hall), end)
        # Behind a back another letter may come, with the same number.
        for _ in range(3):
            self.hall.back()
        self.hall.come(((1,), 3, 3, (2,)))
        self.assertEqual(self.hall.so_far()[2], (None,))
        self.assertEqual(self.hall.left(), 2)

    def test_what_is_passed_is_taken_back_from_the_turns(self):
        hall = Hall(FOUR, (1,), "turns")
        hall.come(((1,), 1, 1, (0,)))
        for _ in range(3):
            self.assertEqual(hall.tick(), [(1, 0)])
            hall.back()
        self.assertEqual(hall.depth(), 1)

    def test_a_copy_goes_on_apart_and_goes_back(self):
        before = shown(self.hall)
        other = self.hall.copy()
        self.assertIsInstance(other, Hall)
        self.assertEqual(shown(other), before)
        other.tick()
        other.come(((0,), 6, 6, (None,)))
        self.assertEqual(shown(self.hall), before)
        after = shown(other)
        self.hall.back()
        self.assertEqual(shown(other), after)
        for _ in range(2):
            other.back()
        for found in reversed(self.steps):
            self.assertEqual(shown(other), found)
            if found[-1]:
                other.back()
        self.assertEqual(shown(self.hall), self.steps[-2])

    def test_a_copy_of_a_copy_and_of_a_new_hall(self):
        other = Hall(LINE, (), "hours").copy()
        with self.assertRaises(NothingDone):
            other.back()
        other.come(((0,), 1, 1, (None,)))
        third = other.copy()
        third.back()
        self.assertEqual((other.left(), third.left()), (1, 0))
        with self.assertRaises(NoCard):
            third.come(((0,), 2, 2, (None,)))


class Trying(unittest.TestCase):

    def setUp(self):
        self.hall = Hall(LINE, (1,), "hours")
        self.hall.come(((0, 1), 1, 2, (None, 2)))
        self.hall.tick()
        self.before = shown(self.hall)

    def test_it_returns_what_the_action_returned_and_puts_back(self):
        def action(hall):
            self.assertIs(hall, self.hall)
            hall.come(((0,), 2, 2, (None,)))
            hall.tick()
            return hall.so_far()

        self.assertEqual(self.hall.trying(action), ((1, 2), (2,)))
        self.assertEqual(shown(self.hall), self.before)
        self.assertIsNone(self.hall.trying(lambda hall: None))
        self.assertEqual(self.hall.trying(Hall.depth), 2)

    def test_what_can_be_taken_back_is_put_back_too(self):
        def action(hall):
            hall.back()
            hall.back()
            with self.assertRaises(NothingDone):
                hall.back()
            hall.tick()
            hall.tick()
            hall.tick()
            return hall.now()

        self.assertEqual(self.hall.trying(action), 4)
        self.assertEqual(shown(self.hall), self.before)
        self.hall.back()
        self.assertEqual(shown(self.hall), (1, [(0, 0)], ((None, None),), 1, 1))
        self.hall.back()
        self.assertEqual(shown(self.hall), (1, [], (), 0, 0))

    def test_an_error_goes_on_and_everything_is_put_back(self):
        class Own(Exception):
            pass

        for error in (Own, KeyError, NothingDone, KeyboardInterrupt):
            def action(hall):
                hall.back()
                hall.tick()
                raise error()

            with self.assertRaises(error):
                self.hall.trying(action)
            self.assertEqual(shown(self.hall), self.before)
        with self.assertRaises(NoCard):
            self.hall.trying(lambda hall: hall.come(None))
        self.assertEqual(shown(self.hall), self.before)

    def test_one_within_another(self):
        told = []

        def inner(hall):
            hall.tick()
            told.append(shown(hall))
            raise ValueError("inner")

        def outer(hall):
            hall.back()
            middle = shown(hall)
            with self.assertRaises(ValueError):
                hall.trying(inner)
            self.assertEqual(shown(hall), middle)
            hall.tick()
            return shown(hall)

        self.assertEqual(self.hall.trying(outer), self.before)
        self.assertEqual(told, [self.before])
        self.assertEqual(shown(self.hall), self.before)

    def test_a_copy_that_is_made_within_stays(self):
        def action(hall):
            hall.tick()
            return hall.copy()

        other = self.hall.trying(action)
        self.assertEqual(shown(other), (3, [], ((1, 2),), 0, 3))
        other.back()
        self.assertEqual(shown(other), self.before)
        other.tick()
        self.assertEqual(shown(self.hall), self.before)

    def test_it_is_nothing_to_be_taken_back_itself(self):
        self.hall.trying(Hall.tick)
        self.assertEqual(self.hall.depth(), 2)


class EachOrder(unittest.TestCase):

    def test_all_short_runs_of_steps(self):
        """What a hall tells hangs on the steps alone that are not taken back."""
        def fails(hall):
            hall.tick()
            raise KeyError("fails")

        def again(steps):
            hall = Hall(FOUR, (1,), "turns")
            for step in steps:
                self.step(hall, step)
            return shown(hall)

        for steps in itertools.product(("come", "tick", "back", "copy", "try", "fail", "nest"), repeat=4):
            hall = Hall(FOUR, (1,), "turns")
            kept = []
            for step in ("come",) + steps:
                if step == "back":
                    if kept:
                        hall.back()
                        kept.pop()
                    else:
                        self.assertRaises(NothingDone, hall.back)
                elif step == "copy":
                    hall = hall.copy()
                elif step == "try":
                    hall.trying(Hall.tick)
                elif step == "fail":
                    self.assertRaises(KeyError, hall.trying, fails)
                elif step == "nest":
                    hall.trying(lambda known: (known.tick(), known.trying(Hall.tick), known.back()))
                else:
                    self.step(hall, step)
                    kept.append(step)
                self.assertEqual(shown(hall), again(kept))

    def step(self, hall, step):
        if step == "tick":
            hall.tick()
        else:
            many = len(hall.so_far())
            hall.come(((0, 1), hall.now(), hall.now() + 9, (None, many)))

    def test_days_drawn_at_random_are_led_back(self):
        rng = random.Random(51)
        for _ in range(60):
            web = drawn_web(rng)
            sort = rng.choice(["hours", "turns"])
            lot = drawn_lot(rng, web, sort)
            bearers = sorted(cards(drawn_day(rng, web, 12), lot, sort), key=lambda card: card[1])
            hall = Hall(web, lot, sort)
            told = [shown(hall)]
            while bearers or hall.left():
                if bearers and bearers[0][1] == hall.now():
                    hall.come(bearers.pop(0))
                else:
                    before = shown(hall)
                    passed = hall.trying(Hall.tick)
                    self.assertEqual(shown(hall), before)
                    self.assertEqual(hall.copy().tick(), passed)
                    self.assertEqual(hall.tick(), passed)
                told.append(shown(hall))
            for before in reversed(told[:-1]):
                hall.back()
                self.assertEqual(shown(hall), before)


class SeveralHalls(unittest.TestCase):

    def test_halls_of_one_web_go_apart(self):
        one, other = Hall(LINE, (), "hours"), Hall(LINE, (), "hours")
        one.come(((0,), 1, 1, (None,)))
        self.assertEqual(other.left(), 0)
        other.tick()
        self.assertEqual(one.now(), 1)
        self.assertEqual(Day(LINE, (((0,), 1),), ((1,),)).web, LINE)


if __name__ == "__main__":
    unittest.main()
