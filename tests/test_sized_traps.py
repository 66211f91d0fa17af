"""Traps of sized days (8.2)."""

import itertools
import random
import unittest

from hourcards.errors import BadDay, NoLot, NoRoad, NotPlain, TooMany
from hourcards.sized import SizedDay, is_sized_enough, is_sized_trap, sized_cards, sized_trap
from hourcards.webs import Web, next_roads
from tests.drawn import drawn_way
from tests.samples import BACK, DAY, FORK, LINE, ODD, RING, SIZED, name_of, nested
from tests.test_cards import NO_LOTS
from tests.test_sized import PARTING, THERE, drawn_letters, led_day, plain_web

# By hand: letter 0 takes two ticks at road 0 and goes on. On the day another comes at 3 and is home then, on the other
# day one comes at 2.
BY_HAND = (SizedDay(LINE, (((0, 1), 1, 2), ((0,), 3, 1)), ((1, 5), (3,))),
           SizedDay(LINE, (((0, 1), 1, 2), ((0,), 2, 1)), ((3, 5), (2,))), 1)


def next_states(web, letters, state, free, tick):
    """All pairs (state, free) behind the tick: each free road begins with somebody or with nobody."""
    here = {}
    for letter, (place, first) in enumerate(state):
        if place < len(letters[letter][0]):
            road = letters[letter][0][place]
            if max(first, free[road]) <= tick:
                here.setdefault(road, [None]).append(letter)
    found = []
    for choice in itertools.product(*here.values()):
        moved, busy = list(state), list(free)
        for road, letter in zip(here, choice):
            if letter is not None:
                moved[letter] = (state[letter][0] + 1, tick + letters[letter][2])
                busy[road] = tick + letters[letter][2]
        found.append((tuple(moved), tuple(busy)))
    return found


def is_lost(letters, limits, state, tick):
    for (way, _, size), limit, (place, first) in zip(letters, limits, state):
        last = first - size if place == len(way) else max(first, tick) + size * (len(way) - 1 - place)
        if last > limit:
            return True
    return False


def can_be_saved(web, letters, limits, state, free, tick):
    states = {(state, free)}
    while states:
        states = {pair for pair in states if not is_lost(letters, limits, pair[0], tick)}
        if any([all([place == len(way) for (place, _), (way, _, _) in zip(known, letters)]) for known, _ in states]):
            return True
        states = {pair for known, busy in states for pair in next_states(web, letters, known, busy, tick)}
        tick += 1
    return False


def is_alike(day, other, lot, until):
    """As 3.2 says of cards, here of sized ones."""
    one, two = [[(letter, card) for letter, card in enumerate(sized_cards(led, lot)) if card[1] <= until]
                for led in (day, other)]
    return one == two


def is_tried_trap(day, other, until):
    """Whether in each way to begin passings up to the tick somebody is late on one of the days, alike up to there."""
    web = day.web
    numbers = [letter for letter, (_, come, _) in enumerate(day.letters) if come <= until]
    letters = [day.letters[letter] for letter in numbers]
    states = {(tuple([(0, letter[1]) for letter in letters]), (1,) * len(web.roads))}
    for tick in range(1, until + 1):
        states = {pair for state, free in states for pair in next_states(web, letters, state, free, tick)}
    for state, free in states:
        saved = []
        for led in (day, other):
            whole = [(0, letter[1]) for letter in led.letters]
            for number, found in zip(numbers, state):
                whole[number] = found
            saved.append(can_be_saved(web, led.letters, [row[-1] for row in led.hours], tuple(whole), free, until + 1))
        if all(saved):
            return False
    return True


class Traps(unittest.TestCase):

    def test_each_road_of_webs_drawn_at_random(self):
        rng = random.Random(85)
        many = 0
        for _ in range(300):
            web = plain_web(rng)
            lot = tuple([road for road in range(len(web.roads)) if rng.random() < 0.4])
            roads = [road for road in range(len(web.roads)) if next_roads(web, road) and road not in lot]
            self.assertEqual(is_sized_enough(web, lot), not roads)
            for road in range(len(web.roads)):
                if road not in roads:
                    with self.assertRaises(NoRoad):
                        sized_trap(web, lot, road)
                    continue
                found = sized_trap(web, lot, road)
                day, other, until = found
                self.assertIsInstance(found, tuple)
                for led in (day, other):
                    self.assertEqual(led, SizedDay(web, led.letters, led.hours))
                self.assertTrue(1 <= until <= 10 ** 6)
                self.assertTrue(is_alike(day, other, lot, until))
                self.assertTrue(is_tried_trap(day, other, until))
                self.assertIs(is_sized_trap(web, lot, found), True)
                # It is none for a lot that is enough.
                whole = tuple(range(len(web.roads)))
                self.assertIs(is_sized_trap(web, whole, found), False)
                many += 1
        self.assertGreater(many, 300)

    def test_errors_in_their_order(self):
        for web in (BACK, FORK):
            with self.assertRaises(NotPlain):
                sized_trap(web, None, None)
        for thing in NO_LOTS + ODD:
            if thing != ():
                with self.subTest(name_of(thing)), self.assertRaises(NoLot):
                    sized_trap(LINE, thing, None)
        # Road 1 is told, road 2 leads nowhere.
        for thing in ODD + [1, 2, 3, -1, 10 ** 39, "0", (0,), [0], b"\x00"]:
            with self.subTest(name_of(thing)), self.assertRaises(NoRoad):
                sized_trap(LINE, (1,), thing)
        self.assertEqual(sized_trap(LINE, (1,), 0), sized_trap(LINE, (1,), 0))

    def test_it_is_one_for_told_roads_behind(self):
        for lot in ((), (1,), (2,), (1, 2)):
            self.assertIs(is_sized_trap(LINE, lot, sized_trap(LINE, lot, 0)), True)


class IsTrap(unittest.TestCase):

    def test_a_trap_made_by_hand(self):
        day, other, until = BY_HAND
        self.assertIs(is_sized_trap(LINE, (), BY_HAND), True)
        self.assertIs(is_sized_trap(LINE, (), (other, day, until)), True)
        self.assertIs(is_sized_trap(LINE, (1, 2), BY_HAND), True)
        # The hour of letter 0 at road 0 tells the days apart, and so does the letter that comes at 2.
        self.assertIs(is_sized_trap(LINE, (0,), BY_HAND), False)
        self.assertIs(is_sized_trap(LINE, (), (day, other, 2)), False)
        self.assertIs(is_sized_trap(LINE, (), (day, day, until)), False)
        self.assertIs(is_sized_trap(LINE, (), (other, other, until)), False)

    def test_what_it_hangs_on(self):
        letter = ((0, 1), 1, 2)

        def is_one(first, second, until=1):
            days = [SizedDay(LINE, (letter,) + tuple([one for one, _ in rest]), (hours,) + tuple([row for _, row in rest]))
                    for hours, rest in (first, second)]
            return is_sized_trap(LINE, (), (days[0], days[1], until))

        early = ((1, 5), [(((0,), 3, 1), (3,))])
        late = ((3, 5), [(((0,), 2, 1), (2,))])
        self.assertIs(is_one(early, late), True)
        # One of size 2 that comes at 2 makes letter 0 wait a tick longer, so that its home tells the days apart.
        self.assertIs(is_one(early, ((4, 6), [(((0,), 2, 2), (2,))])), False)
        self.assertIs(is_one(((1, 6), [(((0,), 3, 2), (3,))]), ((4, 6), [(((0,), 2, 2), (2,))])), True)
        # With a home that is one tick later letter 0 may pass behind the other one on both days.
        self.assertIs(is_one(((1, 6), early[1]), ((3, 6), late[1])), False)
        # A letter of size 1 in its place does not hold up the road.
        letter = ((0, 1), 1, 1)
        self.assertIs(is_one(((1, 4), early[1]), ((3, 4), late[1])), False)

    def test_at_until_the_road_waits_for_one_of_the_days(self):
        # Letter 0 may begin at 1 or at 2; a letter that comes at 2 or 3 needs one of it.
        day = SizedDay(LINE, (((0, 1), 1, 2), ((0,), 2, 1)), ((3, 5), (2,)))
        other = SizedDay(LINE, (((0, 1), 1, 2),), ((1, 5),))
        self.assertIs(is_sized_trap(LINE, (), (day, other, 1)), False)
        self.assertIs(is_sized_trap(LINE, (), (day, other, 2)), False)

    def test_things_that_are_none(self):
        day, other, until = BY_HAND
        wrong = [(), (day, other), (day, other, until, 0), [day, other, until], (until, day, other), (day, other, 0),
                 (day, other, -1), (day, other, 10 ** 6 + 1), (day, other, True), (day, other, None), (day, other, "1"),
                 (day, None, until), (None, other, until), (day, DAY, until), (DAY, DAY, until), {0: day}, (BY_HAND,),
                 (day, other, nested(tuple, 39)), (day, LINE, 1), day,
                 (day, SizedDay(RING, (), ()), until), (day, (LINE, other.letters, other.hours), until)]
        for thing in ODD + wrong:
            with self.subTest(name_of(thing)):
                self.assertIs(is_sized_trap(LINE, (), thing), False)
        self.assertIs(is_sized_trap(Web(4, LINE.roads, LINE.rooms, LINE.times), (), BY_HAND), True)
        self.assertIs(is_sized_trap(RING, (), BY_HAND), False)

    def test_too_many(self):
        many = SizedDay(LINE, (((2,), 9, 2),) * 13, tuple([(9 + 2 * more,) for more in range(13)]))
        twelve = SizedDay(LINE, many.letters[:12], many.hours[:12])
        self.assertIs(is_sized_trap(LINE, (), (twelve, twelve, 1)), False)
        for thing in ((many, twelve, 1), (twelve, many, 1), (many, many, 10 ** 6), (many, SizedDay(LINE, (), ()), 1)):
            with self.assertRaises(TooMany) as caught:
                is_sized_trap(LINE, (), thing)
            self.assertEqual(caught.exception.most, 12)
        for thing in ((many, twelve), [many, twelve, 1], (many, None, 1), (many, twelve, 0), (many, SIZED.letters, 1),
                      (many, SizedDay(RING, (), ()), 1)):
            self.assertIs(is_sized_trap(LINE, (), thing), False)

    def test_twelve_letters(self):
        day, other, until = BY_HAND
        more = tuple([((2,), come, 2) for come in range(1, 20, 2)])
        rows = tuple([(come,) for _, come, _ in more])
        found = (SizedDay(LINE, more + day.letters, rows + day.hours), SizedDay(LINE, more + other.letters, rows + other.hours), 1)
        self.assertEqual(len(found[0].letters), 12)
        self.assertIs(is_sized_trap(LINE, (), found), True)

    def test_errors_in_their_order(self):
        many = SizedDay(LINE, (((2,), 9, 2),) * 13, tuple([(9 + 2 * more,) for more in range(13)]))
        for web in (BACK, FORK):
            with self.assertRaises(NotPlain):
                is_sized_trap(web, None, None)
        for thing in ODD + NO_LOTS:
            if thing != ():
                with self.subTest(name_of(thing)), self.assertRaises(NoLot):
                    is_sized_trap(LINE, thing, (many, many, 1))

    def test_tried_through_all_ways_to_begin(self):
        rng = random.Random(86)
        found = {True: 0, False: 0}
        while min(found.values()) < 150:
            web = plain_web(rng)
            roads = [road for road in range(len(web.roads)) if next_roads(web, road)]
            if not roads:
                continue
            thing = self.mixed(rng, web, sized_trap(web, (), rng.choice(roads)))
            if thing is None:
                continue
            right = is_alike(*thing[:2], (), thing[2]) and is_tried_trap(*thing)
            self.assertIs(is_sized_trap(web, (), thing), right, [(day.letters, day.hours) for day in thing[:2]])
            found[right] += 1

    def mixed(self, rng, web, found):
        """The trap with others beside it, moved, and with another tick, or None if there is no room."""
        more, rows = [], []
        for _ in range(rng.randint(0, 2)):
            letter = (drawn_way(rng, web, 2), rng.randint(1, 4), rng.randint(1, 2))
            row = [letter[1] + rng.randint(0, 3)]
            while len(row) < len(letter[0]):
                row.append(row[-1] + letter[2] + rng.randint(0, 1))
            more.append(letter)
            rows.append(tuple(row))
        by = rng.randint(0, 2)
        days = []
        for day in found[:2]:
            letters = [(way, come + by, size) for way, come, size in day.letters]
            hours = [tuple([hour + by for hour in row]) for row in day.hours]
            try:
                days.append(SizedDay(web, tuple(more + letters), tuple(rows + hours)))
            except BadDay:
                return None
        if rng.random() < 0.2:
            days.reverse()
        return days[0], days[1], max(1, found[2] + by + rng.choice([0, 0, 0, 1, -1]))

    def test_days_drawn_at_random_are_tried(self):
        rng = random.Random(87)
        many = 0
        while many < 150:
            web = rng.choice([LINE, THERE, RING, PARTING])
            until = rng.randint(1, 3)
            early = drawn_letters(rng, web, 3, 2, until)
            days = []
            for _ in range(2):
                later = tuple([(way, come + until, size) for way, come, size in drawn_letters(rng, web, 2, 2, 2)])
                days.append(led_day(rng, web, early + later, rng.choice([0, 0.3])))
            if is_alike(*days, (), until):
                right = is_tried_trap(*days, until)
                self.assertIs(is_sized_trap(web, (), (days[0], days[1], until)), right)
                many += 1


if __name__ == "__main__":
    unittest.main()
