"""Cards (3.1, 3.2)."""

import random
import unittest

from hourcards import cards as module
from hourcards.cards import alike, are_cards, cards, late
from hourcards.days import Day, laid_over, shifted, without
from hourcards.errors import NoHours, NoLot, NoSort, NoTick, OtherWeb
from hourcards.webs import Web
from tests.drawn import drawn_day, drawn_web
from tests.samples import BACK, DAY, EMPTY, FORK, LINE, ODD, name_of, nested
from tests.test_days import sixty

# In the place of a lot of LINE, and of a sort, beside ODD.
NO_LOTS = [[], [0], (3,), (-1,), (1, 0), (0, 0), (True,), (0, True), (False,), ("0",), ((0,),), 0, {0: 0}, b"\x00",
           (0, None), (10 ** 39,), (0, 1, 2, 3), range(2)]
NO_SORTS = [None, True, False, 0, 1, "", "hour", "Hours", "hours ", "turn", b"hours", ("hours",), ["hours"],
            {"hours": 1}, nested(list, 40), LINE, DAY, NoSort(), "hoursturns"]

# Road 0 takes 2 ticks and road 1 takes 3; both have two rooms.
SLOW = Web(3, ((0, 1), (1, 2), (2, 1)), (2, 2, 1), (2, 3, 1))


class Cards(unittest.TestCase):

    def test_the_examples(self):
        self.assertEqual(cards(DAY, (1,), "hours"), (((0, 1, 2), 1, 3, (None, 2, None)), ((0,), 2, 2, (None,))))
        self.assertEqual(cards(DAY, (0,), "turns")[1], ((0,), 2, 2, (1,)))

    def test_hours_at_the_told_roads(self):
        self.assertEqual(cards(DAY, (), "hours"), (((0, 1, 2), 1, 3, (None,) * 3), ((0,), 2, 2, (None,))))
        self.assertEqual(cards(DAY, (0, 1, 2), "hours"), (((0, 1, 2), 1, 3, (1, 2, 3)), ((0,), 2, 2, (2,))))
        self.assertEqual(cards(DAY, (0, 2), "hours"), (((0, 1, 2), 1, 3, (1, None, 3)), ((0,), 2, 2, (2,))))

    def test_the_home_hour_is_that_of_the_last_place(self):
        # The road back is passed at 2 and at 9, the road there at 5.
        day = Day(BACK, (((1, 0, 1), 2),), ((2, 5, 9),))
        self.assertEqual(cards(day, (), "hours"), (((1, 0, 1), 2, 9, (None, None, None)),))
        self.assertEqual(cards(day, (1,), "hours"), (((1, 0, 1), 2, 9, (2, None, 9)),))
        self.assertEqual(cards(day, (0,), "hours"), (((1, 0, 1), 2, 9, (None, 5, None)),))

    def test_turns_count_the_passings_of_the_road(self):
        letters = (((0, 1), 1), ((0,), 1), ((1,), 1), ((0, 1), 2))
        day = Day(LINE, letters, ((3, 6), (1,), (7,), (2, 3)))
        self.assertEqual(cards(day, (0,), "turns"),
                         (((0, 1), 1, 6, (2, None)), ((0,), 1, 1, (0,)), ((1,), 1, 7, (None,)),
                          ((0, 1), 2, 3, (1, None))))
        self.assertEqual([card[3] for card in cards(day, (0, 1), "turns")], [(2, 1), (0,), (2,), (1, 0)])
        self.assertEqual([card[3] for card in cards(day, (2,), "turns")], [(None, None), (None,), (None,), (None, None)])

    def test_turns_of_one_tick_are_in_the_order_of_the_letters(self):
        letters = (((2,), 1),) * 5
        self.assertEqual([card[3] for card in cards(Day(FORK, letters, ((2,), (1,), (2,), (1,), (2,))), (2,), "turns")],
                         [(2,), (0,), (3,), (1,), (4,)])

    def test_turns_of_a_letter_that_passes_a_road_again(self):
        letters = (((0, 1, 0), 1), ((0,), 1), ((1,), 1))
        day = Day(BACK, letters, ((1, 2, 5), (4,), (2,)))
        self.assertEqual([card[3] for card in cards(day, (0, 1), "turns")], [(0, 0, 2), (1,), (1,)])

    def test_days_without_letters_and_beyond_the_bounds(self):
        for sort in ("hours", "turns"):
            self.assertEqual(cards(EMPTY, (0, 1, 2), sort), ())
        many = shifted(laid_over(sixty(), shifted(sixty(), 60)), 10 ** 39)
        self.assertEqual(cards(many, (0,), "turns")[119], ((0,), 10 ** 39 + 61, 10 ** 39 + 120, (119,)))
        self.assertEqual(cards(many, (0,), "hours")[60], ((0,), 10 ** 39 + 61, 10 ** 39 + 61, (10 ** 39 + 61,)))

    def test_no_lot_then_no_sort(self):
        for thing in ODD + NO_LOTS:
            if thing != ():
                with self.subTest(name_of(thing)), self.assertRaises(NoLot):
                    cards(DAY, thing, "hours")
                with self.subTest(name_of(thing)), self.assertRaises(NoLot):
                    cards(DAY, thing, None)
        for thing in NO_SORTS + [odd for odd in ODD if odd not in ("hours", "turns")]:
            with self.subTest(name_of(thing)), self.assertRaises(NoSort):
                cards(DAY, (), thing)

    def test_everything_is_defined_where_the_interface_lists_it(self):
        for name in ("cards", "are_cards", "alike", "late"):
            self.assertEqual(getattr(module, name).__module__, "hourcards.cards")


class AreCards(unittest.TestCase):

    def judge(self, web, lot, sort, *bearers):
        return are_cards(web, lot, sort, tuple(bearers))

    def test_cards_of_days(self):
        rng = random.Random(31)
        for _ in range(300):
            web = drawn_web(rng)
            day = drawn_day(rng, web)
            lot = tuple([road for road in range(len(web.roads)) if rng.random() < 0.4])
            for sort in ("hours", "turns"):
                self.assertIs(are_cards(web, lot, sort, cards(day, lot, sort)), True)

    def test_no_cards_and_several(self):
        for sort in ("hours", "turns"):
            self.assertIs(are_cards(LINE, (0,), sort, ()), True)
        right = ((0,), 2, 2, (None,))
        self.assertIs(are_cards(LINE, (), "hours", (right,) * 99), True)
        self.assertIs(are_cards(LINE, (), "hours", (right,) * 99 + (None,)), False)
        self.assertIs(are_cards(LINE, (), "hours", [right]), False)
        self.assertIs(are_cards(LINE, (), "hours", right), False)

    def test_the_least_home_that_a_letter_alone_could_have(self):
        # It comes at 4, may pass road 0 at 4, road 1 at 6 and road 2 at 9.
        for sort in ("hours", "turns"):
            self.assertIs(self.judge(SLOW, (), sort, ((0, 1, 2), 4, 9, (None,) * 3)), True)
            self.assertIs(self.judge(SLOW, (), sort, ((0, 1, 2), 4, 8, (None,) * 3)), False)
            self.assertIs(self.judge(SLOW, (), sort, ((2,), 4, 4, (None,))), True)
            self.assertIs(self.judge(SLOW, (), sort, ((2,), 4, 3, (None,))), False)
            self.assertIs(self.judge(SLOW, (), sort, ((2,), 10 ** 39, 10 ** 39, (None,))), True)

    def test_hours_that_a_letter_alone_could_have(self):
        # Told: the roads 0 and 1, which are passed at 4 and 6 at the earliest.
        for told, home, right in (
                ((4, 6, None), 9, True), ((5, 7, None), 10, True), ((4, 20, None), 23, True), ((4, 20, None), 22, False),
                ((3, 6, None), 9, False), ((4, 5, None), 9, False), ((5, 6, None), 9, False), ((4, 7, None), 9, False),
                ((0, 6, None), 9, False), ((-10 ** 39, 6, None), 9, False), ((4, 6, None), 10 ** 39, True)):
            with self.subTest(told, home=home):
                self.assertIs(self.judge(SLOW, (0, 1), "hours", ((0, 1, 2), 4, home, told)), right)

    def test_hours_over_silent_roads(self):
        # Road 0 alone is told: the way goes over it, over two silent roads, and so on.
        way = (0, 1, 2, 1)
        for told, home, right in (((4, None, None, None), 10, True), ((4, None, None, None), 9, False),
                                  ((6, None, None, None), 12, True), ((6, None, None, None), 11, False)):
            self.assertIs(self.judge(SLOW, (0,), "hours", (way, 4, home, told)), right)
        # Road 1 is passed twice, four ticks apart at least.
        for told, home, right in (((None, 6, None, 10), 10, True), ((None, 6, None, 9), 9, False),
                                  ((None, 7, None, 10), 10, False), ((None, 5, None, 10), 10, False)):
            self.assertIs(self.judge(SLOW, (1,), "hours", (way, 4, home, told)), right)

    def test_home_is_the_hour_of_a_told_last_road(self):
        for home, right in ((9, True), (8, False), (10, False), (11, False)):
            self.assertIs(self.judge(SLOW, (2,), "hours", ((0, 1, 2), 4, home, (None, None, 9))), right)
        self.assertIs(self.judge(SLOW, (2,), "hours", ((0, 1, 2), 4, 8, (None, None, 8))), False)

    def test_turns(self):
        for told, home, right in (((0, 0, None), 9, True), ((99, 3, None), 9, True), ((0, 10 ** 39, None), 9, True),
                                  ((-1, 0, None), 9, False), ((0, -1, None), 9, False), ((0, 0, None), 8, False)):
            with self.subTest(told, home=home):
                self.assertIs(self.judge(SLOW, (0, 1), "turns", ((0, 1, 2), 4, home, told)), right)
        # A turn at the last road is no hour.
        self.assertIs(self.judge(SLOW, (2,), "turns", ((0, 1, 2), 4, 9, (None, None, 0))), True)
        self.assertIs(self.judge(SLOW, (2,), "hours", ((0, 1, 2), 4, 9, (None, None, 0))), False)

    def test_integers_at_just_the_told_places(self):
        for told in ((None, 2, None), (1, 2, None), (None, None, None), (1, 2, 3), (1, None), (1, None, 3, None), ()):
            self.assertIs(self.judge(LINE, (0, 2), "hours", ((0, 1, 2), 1, 3, told)), False)
        self.assertIs(self.judge(LINE, (0, 2), "hours", ((0, 1, 2), 1, 3, (1, None, 3))), True)

    def test_wrong_parts(self):
        right = ((0, 1), 1, 2, (1, None))
        self.assertIs(self.judge(LINE, (0,), "hours", right), True)
        wrong = {
            0: [(), (3,), (0, 2), [0, 1], (0, True), (False, 1), (0, "1"), (0,), (0, 1, 2), 0],
            1: [0, -1, True, False, "1", (1,), 2, 10 ** 39],
            2: [1, 0, -1, True, False, "2", (2,), [2]],
            3: [(True, None), (1,), [1, None], (1, None, None), ("1", None), (1, False), (1, 2), (None, None), "1", {}],
        }
        for at, things in wrong.items():
            for thing in things + ODD:
                card = right[:at] + (thing,) + right[at + 1:]
                for sort in ("hours", "turns"):
                    with self.subTest(at, sort=sort, thing=name_of(thing)):
                        self.assertIs(self.judge(LINE, (0,), sort, card), False)

    def test_things_that_are_no_cards(self):
        right = ((0, 1), 1, 2, (1, None))
        for thing in ODD + [(), right[:3], right + (None,), list(right), {0: right}, (right,), "abcd", b"abcd", 0]:
            with self.subTest(name_of(thing)):
                self.assertIs(are_cards(LINE, (0,), "hours", (right, thing)), False)
                self.assertIs(are_cards(LINE, (0,), "turns", (thing,)), False)
        for thing in ODD + [right, [right], {0: right}, 0]:
            with self.subTest(name_of(thing)):
                self.assertIs(are_cards(LINE, (0,), "hours", thing), thing == ())

    def test_no_lot_then_no_sort(self):
        for thing in NO_LOTS:
            with self.subTest(name_of(thing)), self.assertRaises(NoLot):
                are_cards(LINE, thing, None, None)
        for thing in NO_SORTS:
            with self.subTest(name_of(thing)), self.assertRaises(NoSort):
                are_cards(LINE, (), thing, None)


class Alike(unittest.TestCase):

    def test_cards_of_those_who_come_up_to_the_tick(self):
        day = Day(LINE, (((0, 1), 1), ((0,), 2), ((2,), 4)), ((1, 5), (2,), (4,)))
        other = Day(LINE, (((0, 1), 1), ((0,), 2), ((2,), 5)), ((3, 5), (2,), (5,)))
        for tick, lot, right in ((1, (), True), (3, (), True), (4, (), False), (5, (), False), (3, (1, 2), True),
                                 (1, (0,), False), (10 ** 39, (), False)):
            with self.subTest(tick, lot=lot):
                self.assertIs(alike(day, other, lot, "hours", tick), right)
                self.assertIs(alike(other, day, lot, "hours", tick), right)
        for tick in (1, 4, 10 ** 39):
            self.assertIs(alike(day, day, (0, 1, 2), "hours", tick), True)
            self.assertIs(alike(EMPTY, EMPTY, (), "turns", tick), True)

    def test_turns_may_hang_on_letters_that_come_later(self):
        # The letter of tick 1 is passed at 5 on both days, on the other one behind a letter that comes at 4.
        day = Day(LINE, (((0,), 1), ((0,), 4)), ((5,), (6,)))
        other = Day(LINE, (((0,), 1), ((0,), 4)), ((5,), (4,)))
        self.assertIs(alike(day, other, (), "turns", 3), True)
        self.assertIs(alike(day, other, (0,), "hours", 3), True)
        self.assertIs(alike(day, other, (0,), "turns", 3), False)
        self.assertIs(alike(day, other, (1,), "turns", 3), True)

    def test_their_numbers_are_the_same(self):
        day = Day(LINE, (((0,), 1), ((0,), 4)), ((1,), (4,)))
        other = Day(LINE, (((0,), 4), ((0,), 1)), ((4,), (1,)))
        self.assertIs(alike(day, other, (), "hours", 3), False)
        self.assertIs(alike(without(day, [1]), day, (), "hours", 3), True)
        self.assertIs(alike(without(day, [1]), day, (), "hours", 4), False)
        self.assertIs(alike(EMPTY, day, (), "hours", 1), False)
        late_day = shifted(day, 5)
        self.assertIs(alike(EMPTY, late_day, (), "hours", 5), True)
        self.assertIs(alike(EMPTY, late_day, (), "hours", 6), False)

    def test_days_beyond_the_bounds(self):
        many = laid_over(sixty(), shifted(sixty(), 60))
        self.assertIs(alike(sixty(), many, (0,), "turns", 60), True)
        self.assertIs(alike(sixty(), many, (0,), "turns", 61), False)

    def test_the_errors_in_their_order(self):
        with self.assertRaises(OtherWeb):
            alike(DAY, Day(FORK, (), ()), None, None, None)
        for thing in NO_LOTS:
            with self.subTest(name_of(thing)), self.assertRaises(NoLot):
                alike(DAY, DAY, thing, None, None)
        for thing in NO_SORTS:
            with self.subTest(name_of(thing)), self.assertRaises(NoSort):
                alike(DAY, DAY, (), thing, None)
        for thing in ODD + [0, -1, -10 ** 39, (1,), [1], "1"]:
            with self.subTest(name_of(thing)), self.assertRaises(NoTick):
                alike(DAY, DAY, (), "hours", thing)
        same = Day(Web(4, LINE.roads, LINE.rooms, LINE.times), DAY.letters, DAY.hours)
        self.assertIs(alike(DAY, same, (), "hours", 1), True)


class Late(unittest.TestCase):

    def test_those_behind_their_home_hour(self):
        bearers = cards(DAY, (), "hours")
        for hours, found in ((((1, 2, 3), (2,)), []), (((1, 2, 4), (2,)), [(0, 1)]), (((9, 9, 9), (7,)), [(0, 6), (1, 5)]),
                             (((9, 9, 3), (1,)), []), (((0, 0, -5), (10 ** 39,)), [(1, 10 ** 39 - 2)])):
            with self.subTest(hours):
                self.assertEqual(late(bearers, hours), found)

    def test_no_cards(self):
        self.assertEqual(late((), ()), [])

    def test_the_list_is_new(self):
        bearers = cards(DAY, (), "hours")
        late(bearers, ((1, 2, 4), (2,))).append(None)
        self.assertEqual(late(bearers, ((1, 2, 4), (2,))), [(0, 1)])

    def test_no_hours(self):
        wrong = [(), [], ((1, 2, 3),), ((1, 2, 3), (2,), (3,)), [(1, 2, 3), (2,)], ([1, 2, 3], (2,)), ((1, 2), (2,)),
                 ((1, 2, 3, 4), (2,)), ((1, 2, None), (2,)), ((1, 2, 3), (None,)), ((True, 2, 3), (2,)),
                 ((1, 2, 3), (True,)), ((1, 2, "3"), (2,)), ((1, 2, 3), 2), ((1, 2, 3), "2"), {0: (1, 2, 3)},
                 ((1, 2, 3), ((2,),)), ((1, 2, 3), (LINE,)), ((1, 2, 3), nested(tuple, 39))]
        for thing in ODD + wrong:
            with self.subTest(name_of(thing)), self.assertRaises(NoHours):
                late(cards(DAY, (), "hours"), thing)
        with self.assertRaises(NoHours):
            late((), [])


if __name__ == "__main__":
    unittest.main()
