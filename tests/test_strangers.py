"""Strangers (7)."""

import random
import unittest

from hourcards import strangers as module
from hourcards.cards import alike, are_cards, cards
from hourcards.days import Day
from hourcards.errors import NoCards, NoChoice, NoLot, NoNumber, NoPlace, NoSort
from hourcards.kinds import bad_places
from hourcards.strangers import beaten, stranger_hours
from hourcards.traps import trap
from hourcards.webs import Web
from tests.drawn import drawn_day, drawn_web
from tests.samples import BACK, DAY, FORK, FOUR, LINE, ODD, RING, name_of, nested
from tests.test_cards import NO_LOTS, NO_SORTS

SORTS = ("hours", "turns")
ROW = ("row", 0, 1, 2)
WAITING = (((0,), 1, 1, (None,)), ((0, 1), 1, 2, (None, None)), ((1,), 2, 9, (None,)))


def nobody(road, tick, waiting, seen, past):
    return []


def first_one(road, tick, waiting, seen, past):
    return waiting[:1]


def last_one(road, tick, waiting, seen, past):
    return [waiting[-1]]


def least_home(rooms):
    def choose(road, tick, waiting, seen, past):
        homes = {letter: card[2] for letter, card in seen}
        return sorted(waiting, key=lambda letter: (homes[letter], letter))[:rooms[road]]
    return choose


def most_pressing(web):
    """By what is left to the home hour when the rest of the way is gone, as far as past and seen tell it."""
    def choose(road, tick, waiting, seen, past):
        told = dict(seen)

        def spare(letter):
            done = len([triple for triple in past if triple[2] == letter])
            way, _, home, _ = told[letter]
            return home - sum([web.times[other] for other in way[done:-1]])

        return tuple(sorted(waiting, key=lambda letter: (spare(letter), letter))[:web.rooms[road]])
    return choose


def longest_way(rooms):
    def choose(road, tick, waiting, seen, past):
        told = dict(seen)
        return sorted(waiting, key=lambda letter: (-len(told[letter][0]), letter))[:rooms[road]]
    return choose


def by_turns(rooms):
    """Each road begins with another one, by how much it has passed so far."""
    def choose(road, tick, waiting, seen, past):
        begin = len([triple for triple in past if triple[1] == road]) % len(waiting)
        return (waiting[begin:] + waiting[:begin])[:rooms[road]]
    return choose


def drawn(salt, rooms):
    """One that chooses as if by chance, but always the same for equal arguments."""
    def choose(road, tick, waiting, seen, past):
        rng = random.Random(repr((salt, road, tick, waiting, len(seen), past)))
        return rng.sample(waiting, rng.randint(0, min(len(waiting), rooms[road])))
    return choose


def strangers(web, salt):
    return [nobody, first_one, last_one, least_home(web.rooms), most_pressing(web), longest_way(web.rooms),
            by_turns(web.rooms), drawn(salt, web.rooms)]


def simulated(web, bearers, ahead, choose, last):
    """The hours up to the tick, tick by tick and road by road, as 7.1 says."""
    rows = [[] for _ in bearers]
    past = []
    for tick in range(1, last + 1):
        passed = []
        for road in range(len(web.roads)):
            waiting = []
            for letter, ((way, come, _, _), row) in enumerate(zip(bearers, rows)):
                if len(row) < len(way) and way[len(row)] == road:
                    if tick >= (row[-1] + web.times[way[len(row) - 1]] if row else come):
                        waiting.append(letter)
            if waiting:
                seen = tuple([(letter, card) for letter, card in enumerate(bearers) if card[1] <= tick + ahead])
                passed += [(tick, road, letter) for letter in choose(road, tick, tuple(waiting), seen, tuple(sorted(past)))]
        past += passed
        for _, _, letter in passed:
            rows[letter].append(tick)
    return tuple([tuple(row + [None] * (len(card[0]) - len(row))) for card, row in zip(bearers, rows)])


class Hours(unittest.TestCase):

    def test_by_hand(self):
        self.assertEqual(stranger_hours(LINE, WAITING, 0, first_one), ((1,), (2, 3), (2,)))
        self.assertEqual(stranger_hours(LINE, WAITING, 0, last_one), ((2,), (1, 3), (2,)))
        self.assertEqual(stranger_hours(LINE, WAITING, 0, nobody), ((None,), (None, None), (None,)))
        self.assertEqual(stranger_hours(LINE, WAITING, 0, least_home(LINE.rooms)), ((1,), (2, 3), (2,)))

    def test_who_is_asked_when_and_with_what(self):
        asked = []

        def choose(road, tick, waiting, seen, past):
            asked.append((road, tick, waiting, seen, past))
            return waiting[:1]

        stranger_hours(LINE, WAITING, 0, choose)
        first = tuple(enumerate(WAITING[:2]))
        whole = tuple(enumerate(WAITING))
        self.assertEqual(asked, [
            (0, 1, (0, 1), first, ()),
            (0, 2, (1,), whole, ((1, 0, 0),)),
            (1, 2, (2,), whole, ((1, 0, 0),)),
            (1, 3, (1,), whole, ((1, 0, 0), (2, 0, 1), (2, 1, 2))),
        ])
        for told in asked:
            self.assertEqual([type(part) for part in told], [int, int, tuple, tuple, tuple])

    def test_who_sees_ahead(self):
        for ahead, many in ((0, 2), (1, 3), (2, 3), (10 ** 39, 3)):
            seen_first = []

            def choose(road, tick, waiting, seen, past):
                seen_first.append(seen)
                return waiting

            stranger_hours(Web(3, ((0, 1), (1, 2)), (3, 3), (1, 1)), WAITING, ahead, choose)
            self.assertEqual(seen_first[0], tuple(enumerate(WAITING))[:many])
        far = (((0,), 1, 1, (None,)), ((0,), 10 ** 4, 10 ** 4, (None,)))
        told = []

        def look(road, tick, waiting, seen, past):
            told.append((tick, len(seen)))
            return waiting

        stranger_hours(LINE, far, 10 ** 4 - 2, look)
        self.assertEqual(told, [(1, 1), (10 ** 4, 2)])
        told.clear()
        stranger_hours(LINE, far, 10 ** 4 - 1, look)
        self.assertEqual(told, [(1, 2), (10 ** 4, 2)])

    def test_up_to_twenty_ticks_behind_the_greatest_home_hour(self):
        def from_tick(begin):
            return lambda road, tick, waiting, seen, past: waiting[:1] if tick >= begin else []

        bearers = (((0,), 1, 5, (None,)), ((0, 1), 1, 7, (None, None)))
        self.assertEqual(stranger_hours(LINE, bearers, 0, from_tick(26)), ((26,), (27, None)))
        self.assertEqual(stranger_hours(LINE, bearers, 0, from_tick(27)), ((27,), (None, None)))
        self.assertEqual(stranger_hours(LINE, bearers, 0, from_tick(28)), ((None,), (None, None)))
        asked = []

        def idle(road, tick, waiting, seen, past):
            asked.append(tick)
            return ()

        stranger_hours(LINE, bearers, 0, idle)
        self.assertEqual(asked, list(range(1, 28)))

    def test_no_cards(self):
        def never(road, tick, waiting, seen, past):
            raise AssertionError("nobody is there")

        self.assertEqual(stranger_hours(LINE, (), 0, never), ())

    def test_as_looked_at_tick_by_tick(self):
        rng = random.Random(71)
        for number in range(250):
            web = drawn_web(rng)
            sort = rng.choice(SORTS)
            lot = tuple([road for road in range(len(web.roads)) if rng.random() < 0.4])
            bearers = cards(drawn_day(rng, web, 12), lot, sort)
            ahead = rng.choice([0, 1, 3, 99])
            choose = rng.choice(strangers(web, number))
            last = max([card[2] for card in bearers], default=0) + 20
            self.assertEqual(stranger_hours(web, bearers, ahead, choose), simulated(web, bearers, ahead, choose, last))

    def test_lists_and_tuples_are_choices(self):
        web = Web(2, ((0, 1),), (3,), (1,))
        bearers = (((0,), 1, 1, (None,)),) * 3
        for made in (list, tuple):
            for order in ((0, 1, 2), (2, 1, 0), (1, 0)):
                found = stranger_hours(web, bearers, 0, lambda road, tick, waiting, seen, past: made(
                    [letter for letter in order if letter in waiting] or waiting))
                self.assertEqual(found, tuple([(1 if letter in order else 2,) for letter in range(3)]))

    def test_a_list_that_was_given_may_change(self):
        kept = []

        def choose(road, tick, waiting, seen, past):
            kept.clear()
            kept.append(waiting[0])
            return kept

        self.assertEqual(stranger_hours(LINE, WAITING, 0, choose), ((1,), (2, 3), (2,)))
        self.assertEqual(kept, [1])

    def test_no_choice(self):
        two = Web(2, ((0, 1),), (2,), (1,))
        bearers = (((0,), 1, 1, (None,)),) * 3
        wrong = [[3], [-1], [0, 0], (1, 1), [0, 1, 2], (2, 1, 0), [True], [False], (0, True), [None], ["0"], [(0,)], [[0]],
                 0, 1, True, False, None, "", "0", b"", b"\x00", {}, {0: 0}, {0: 1}, range(1), iter([0]), [10 ** 39], [0, LINE],
                 [nested(list, 40)], nested(tuple, 40), LINE, DAY, NoChoice(0, 1), WAITING, {0}, 0.0, [0.0]]
        for thing in wrong:
            with self.subTest(name_of(thing)), self.assertRaises(NoChoice) as caught:
                stranger_hours(two, bearers, 0, lambda road, tick, waiting, seen, past: thing)
            self.assertEqual((caught.exception.road, caught.exception.at), (0, 1))

    def test_no_choice_tells_the_road_and_the_tick(self):
        def choose(road, tick, waiting, seen, past):
            return [0] if (road, tick) == (1, 3) else waiting[:1]

        with self.assertRaises(NoChoice) as caught:
            stranger_hours(LINE, WAITING, 0, choose)
        self.assertEqual((caught.exception.road, caught.exception.at), (1, 3))
        # Who waits at another road does not wait here.
        with self.assertRaises(NoChoice) as caught:
            stranger_hours(LINE, WAITING, 0, lambda road, tick, waiting, seen, past: [1])
        self.assertEqual((caught.exception.road, caught.exception.at), (0, 2))

    def test_other_errors_go_on(self):
        class Own(Exception):
            pass

        for error in (Own, KeyError, ValueError, ZeroDivisionError, NoCards):
            def choose(road, tick, waiting, seen, past):
                raise error()

            with self.assertRaises(error):
                stranger_hours(LINE, WAITING, 0, choose)
            with self.assertRaises(error):
                beaten(FOUR, (), "hours", ROW, 0, 1, choose)

    def test_cards_for_some_lot_and_sort(self):
        rng = random.Random(72)
        for _ in range(100):
            web = drawn_web(rng)
            lot = tuple([road for road in range(len(web.roads)) if rng.random() < 0.5])
            for sort in SORTS:
                bearers = cards(drawn_day(rng, web, 5), lot, sort)
                self.assertEqual(len(stranger_hours(web, bearers, 0, nobody)), len(bearers))

    def test_no_cards_of_any_lot_and_sort(self):
        hour = ((0, 1), 5, 6, (5, None))
        turn = ((0, 1), 5, 6, (0, None))
        for right in ((hour,), (turn,), (turn, hour), (((0,), 5, 5, (7,)),)):
            # A turn of 7 or of 5 is one, whatever the hours are.
            self.assertEqual(len(stranger_hours(LINE, right, 0, nobody)), len(right))
        self.assertTrue(are_cards(LINE, (0,), "turns", (turn, hour)))
        wrong = [
            # Road 0 is told and silent.
            (hour, ((0,), 5, 5, (None,))), (((0,), 5, 5, (None,)), turn),
            # Neither an hour nor a turn, and home too early for both.
            (((0, 1), 5, 6, (-1, None)),), (((0, 1), 5, 5, (5, None)),), (turn, ((1,), 3, 2, (None,))),
            [hour], hour, (hour, None), (list(hour),), (hour[:3],), (hour + (None,),), {0: hour}, (((0, 2),) + hour[1:],),
            ((hour[0], True, 6, (5, None)),), ((hour[0], 0, 6, (5, None)),), ((hour[0], 5, "6", (5, None)),),
            ((hour[0], 5, 6, [5, None]),), ((hour[0], 5, 6, (True, None)),), ((hour[0], 5, 6, ("5", None)),),
            ((hour[0], 5, 6, (5,)),), ((hour[0], 5, 6, (nested(list, 38), None)),), 0, "cards", (0,), ((),),
        ]
        for thing in ODD + wrong:
            with self.subTest(name_of(thing)), self.assertRaises(NoCards):
                stranger_hours(LINE, thing, None, None)
        with self.assertRaises(NoCards):
            stranger_hours(BACK, (((0, 1, 0), 1, 5, (1, None, None)),), 0, nobody)

    def test_no_number(self):
        for thing in ODD + [-1, -10 ** 39, "0", (0,), [0]]:
            with self.subTest(name_of(thing)), self.assertRaises(NoNumber):
                stranger_hours(LINE, WAITING, thing, lambda road, tick, waiting, seen, past: None)

    def test_everything_is_defined_where_the_interface_lists_it(self):
        for name in ("stranger_hours", "beaten"):
            self.assertEqual(getattr(module, name).__module__, "hourcards.strangers")


class Beaten(unittest.TestCase):

    def check(self, web, lot, sort, place, ahead, late, choose):
        found = beaten(web, lot, sort, place, ahead, late, choose)
        self.assertIsInstance(found, tuple)
        day, hours, letter = found
        self.assertIsInstance(day, Day)
        days = trap(web, lot, sort, place, ahead, late)
        self.assertTrue(day == days[0] or day == days[1])
        self.assertTrue(alike(day, days[0], lot, sort, days[2] + ahead))
        # There is a tick up to which the stranger was led, at which the letter is not home, and too late.
        greatest = max([row[-1] for row in day.hours])
        self.assertIsNone(hours[letter][-1])
        least = day.hours[letter][-1] + late - 1
        bearers = cards(day, lot, sort)
        whole = simulated(web, bearers, ahead, choose, greatest + late + 20)
        right = [tick for tick in range(least, greatest + late + 21) if self.cut(whole, tick) == hours]
        self.assertTrue(right, (web.roads, lot, sort, place, ahead, late))

    def cut(self, hours, tick):
        return tuple([tuple([hour if hour is not None and hour <= tick else None for hour in row]) for row in hours])

    def test_strangers_of_several_kinds(self):
        rng = random.Random(73)
        seen = {}
        for number in range(120):
            web = drawn_web(rng)
            sort = SORTS[number % 2]
            lot = tuple([road for road in range(len(web.roads)) if rng.random() < 0.25])
            for place in rng.sample(bad_places(web, lot, sort), min(1, len(bad_places(web, lot, sort)))):
                ahead = rng.choice([0, 0, 1, 2, 5, 12])
                late = 1 if place[1] == place[-1] else rng.randint(1, 3)
                for choose in strangers(web, number):
                    self.check(web, lot, sort, place, ahead, late, choose)
                seen[(sort, place[0])] = seen.get((sort, place[0]), 0) + 1
        self.assertEqual(len(seen), 4)

    def test_small_webs_and_each_ahead(self):
        for web, place in ((BACK, ("row", 0, 1, 0)), (RING, ROW), (FOUR, ROW), (FORK, ("fork", 1, 2))):
            for ahead in range(0, 13, 3):
                for choose in strangers(web, ahead):
                    self.check(web, (), "hours", place, ahead, 1, choose)

    def test_both_days_beat_somebody(self):
        days = trap(FOUR, (), "hours", ROW, 0, 1)
        found = [beaten(FOUR, (), "hours", ROW, 0, 1, choose)[0] for choose in (
            longest_way(FOUR.rooms), lambda road, tick, waiting, seen, past: waiting[-1:] if tick == 1 else waiting[:1])]
        self.assertEqual(sorted([days.index(day) for day in found]), [0, 1])

    def test_it_sees_so_far_ahead(self):
        for ahead in (0, 2, 12):
            def choose(road, tick, waiting, seen, past):
                for letter, card in seen:
                    self.assertLessEqual(card[1], tick + ahead)
                self.assertEqual(list(seen), sorted(seen, key=lambda pair: pair[0]))
                self.assertLessEqual(set(waiting), {letter for letter, _ in seen})
                return waiting[:1]

            beaten(FOUR, (), "hours", ROW, ahead, 2, choose)

    def test_the_errors_of_trap_then_no_choice(self):
        def never(road, tick, waiting, seen, past):
            raise AssertionError("an error is ahead")

        for thing in NO_LOTS:
            with self.subTest(name_of(thing)), self.assertRaises(NoLot):
                beaten(LINE, thing, None, None, None, None, never)
        for thing in NO_SORTS:
            with self.subTest(name_of(thing)), self.assertRaises(NoSort):
                beaten(FOUR, (), thing, None, None, None, never)
        for thing in ODD + [("row", False, 1, 2), ("row", 0, True, 2), ["row", 0, 1, 2], ("row", 1, 2, 3)]:
            with self.subTest(name_of(thing)), self.assertRaises(NoPlace):
                beaten(FOUR, (), "hours", thing, None, None, never)
        for thing in ODD + [-1, 13]:
            with self.subTest(name_of(thing)), self.assertRaises(NoNumber):
                beaten(FOUR, (), "hours", ROW, thing, 1, never)
        for thing in ODD + [0, 4]:
            with self.subTest(name_of(thing)), self.assertRaises(NoNumber):
                beaten(FOUR, (), "hours", ROW, 0, thing, never)
        with self.assertRaises(NoNumber):
            beaten(BACK, (), "hours", ("row", 0, 1, 0), 0, 2, never)
        for thing in [None, 0, "0", [True], [99], [0, 1], {0: 0}, LINE]:
            with self.subTest(name_of(thing)), self.assertRaises(NoChoice) as caught:
                beaten(FOUR, (), "hours", ROW, 0, 1, lambda road, tick, waiting, seen, past: thing)
            self.assertEqual((caught.exception.road, caught.exception.at), (0, 1))

    def test_equal_calls_give_equal_answers(self):
        for choose in strangers(FOUR, 7):
            self.assertEqual(beaten(FOUR, (), "turns", ROW, 1, 2, choose), beaten(FOUR, (), "turns", ROW, 1, 2, choose))


if __name__ == "__main__":
    unittest.main()
