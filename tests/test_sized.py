"""Letters of two sizes: days, cards, lots and halls (8)."""

import random
import unittest

from hourcards import sized as module
from hourcards.errors import BadDay, NoCard, NoLot, NotEnough, NotPlain
from hourcards.sized import SizedDay, SizedHall, is_sized_enough, sized_cards
from hourcards.webs import Web, next_roads
from tests.drawn import drawn_way, drawn_web
from tests.samples import BACK, DAY, EMPTY, FORK, FOUR, LARGE, LINE, ODD, RING, SIZED, name_of, nested
from tests.test_cards import NO_LOTS

THERE = Web(2, ((0, 1), (1, 0)), (1, 1), (1, 1))
# A road there, and two on from it that lead nowhere.
PARTING = Web(4, ((0, 1), (1, 2), (1, 3)), (1,) * 3, (1,) * 3)
LETTERS = (((0, 1), 2, 2), ((1,), 3, 1))
HOURS = ((2, 4), (3,))
NO_LETTERS = [
    [], {}, 0, "01", list(LETTERS), (list(LETTERS[0]), LETTERS[1]), (([0, 1], 2, 2), ((1,), 3, 1)), LETTERS[0],
    (LETTERS[0], ((1,), 3)), (LETTERS[0], ((1,), 3, 1, 1)), (LETTERS[0], ()), (LETTERS[0], None), (LETTERS[0], "abc"),
    (LETTERS[0], ((1,), 3, 0)), (LETTERS[0], ((1,), 3, 3)), (LETTERS[0], ((1,), 3, -1)), (LETTERS[0], ((1,), 3, True)),
    (LETTERS[0], ((1,), 3, None)), (LETTERS[0], ((1,), 3, "1")), (LETTERS[0], ((1,), 3, (1,))), (LETTERS[0], ((1,), 3, LINE)),
    (LETTERS[0], ((1,), True, 1)), (LETTERS[0], ((1,), 0, 1)), (LETTERS[0], ((1,), 10 ** 6 + 1, 1)),
    (LETTERS[0], ((1,), "3", 1)), (LETTERS[0], ((), 3, 1)), (LETTERS[0], ((0, 2), 3, 1)), (LETTERS[0], ((True,), 3, 1)),
    (LETTERS[0], ([1], 3, 1)), (((0,), 1, 1),) * 61, (LETTERS[0], (nested(tuple, 38), 3, 1)), (LETTERS[0], (3, (1,), 1)),
    (LETTERS[0], ((1,), 3, [1])), (LETTERS[0], (1, 3, 1)), (LETTERS[0], ((0,) * 9, 3, 1)), {0: LETTERS[0]},
    (((0,), 1), ((0,), 2)),
]
NO_HOURS = [
    (), [], {}, 0, list(HOURS), ([2, 4], (3,)), ((2, 4), [3]), ((2, 4),), ((2, 4), (3,), (3,)), ((2,), (3,)),
    ((2, 4, 5), (3,)), ((2, 4), ()), ((2, 4), 3), ((2, 4), None), ((2, None), (3,)), ((2, "4"), (3,)), ((True, 4), (3,)),
    ((2, 4), (True,)), ((2, 4), "3"), ((2, (4,)), (3,)), ((2, 4), (LINE,)), ((2, nested(list, 38)), (3,)), {0: (2, 4)},
]


def plain_web(rng):
    return drawn_web(rng, 5, 6, plain=True)


def led_day(rng, web, letters, lazy):
    """A sized day on which roads that could begin with somebody do so mostly."""
    rows = [[] for _ in letters]
    free = [1] * len(web.roads)
    tick = 0
    while any([len(row) < len(way) for row, (way, _, _) in zip(rows, letters)]):
        tick += 1
        here = {}
        for letter, ((way, come, size), row) in enumerate(zip(letters, rows)):
            if len(row) < len(way):
                road = way[len(row)]
                if max(free[road], row[-1] + size if row else come) <= tick:
                    here.setdefault(road, []).append(letter)
        for road, found in here.items():
            if rng.random() >= lazy:
                letter = rng.choice(found)
                rows[letter].append(tick)
                free[road] = tick + letters[letter][2]
    return SizedDay(web, letters, tuple([tuple(row) for row in rows]))


def drawn_letters(rng, web, most, longest=8, span=8):
    return tuple([(drawn_way(rng, web, longest), rng.randint(1, span), rng.randint(1, 2))
                  for _ in range(rng.randint(0, most))])


class Days(unittest.TestCase):

    def assert_bad(self, part, *told):
        with self.assertRaises(BadDay) as caught:
            SizedDay(*told)
        self.assertEqual(caught.exception.part, part)

    def test_its_attributes_are_the_three(self):
        day = SizedDay(LINE, LETTERS, HOURS)
        self.assertEqual((day.web, day.letters, day.hours), (LINE, LETTERS, HOURS))
        self.assertEqual(sorted(vars(day)), ["hours", "letters", "web"])
        self.assertEqual(SizedDay(LINE, (), ()).letters, ())
        self.assertEqual(len(SizedDay(LINE, (((0,), 1, 2),) * 60, tuple([(1 + 2 * k,) for k in range(60)])).letters), 60)

    def test_webs_that_are_not_plain(self):
        for web in (BACK, FORK, LARGE, Web(4, LINE.roads, (1, 1, 2), (1, 1, 1)), Web(4, LINE.roads, (1, 1, 1), (1, 3, 1))):
            self.assert_bad("web", web, (), ())
            self.assert_bad("web", web, None, None)

    def test_bad_letters(self):
        for thing in ODD + NO_LETTERS:
            with self.subTest(name_of(thing)):
                self.assert_bad("letters", LINE, thing, None)

    def test_bad_hours(self):
        for thing in ODD + NO_HOURS:
            with self.subTest(name_of(thing)):
                self.assert_bad("hours", LINE, LETTERS, thing)
        self.assert_bad("hours", LINE, (), [])

    def test_early(self):
        self.assert_bad("early", LINE, LETTERS, ((1, 4), (3,)))
        # A letter of size 2 is at the next road two ticks later, one of size 1 one tick later.
        self.assert_bad("early", LINE, LETTERS, ((2, 3), (6,)))
        self.assert_bad("early", LINE, LETTERS, ((2, 4), (2,)))
        self.assertEqual(SizedDay(LINE, (((0, 1), 2, 1),), ((2, 3),)).hours, ((2, 3),))
        self.assert_bad("early", LINE, (((0, 1), 2, 1),), ((2, 2),))

    def test_full(self):
        two = (((0,), 1, 2), ((0,), 1, 1))
        for hours, right in ((((1,), (3,)), True), (((2,), (1,)), True), (((1,), (1,)), False), (((1,), (2,)), False),
                             (((5,), (7,)), True), (((5,), (6,)), False), (((5,), (4,)), True)):
            with self.subTest(hours):
                if right:
                    self.assertEqual(SizedDay(LINE, two, hours).hours, hours)
                else:
                    self.assert_bad("full", LINE, two, hours)
        # Letters of size 2 that end their ways, one behind the other, and a way that passes a road again.
        ends = (((0,), 1, 2),) * 3
        self.assertEqual(SizedDay(LINE, ends, ((1,), (5,), (3,))).letters, ends)
        self.assert_bad("full", LINE, ends, ((1,), (4,), (3,)))
        self.assert_bad("full", THERE, (((0, 1, 0), 1, 2), ((0,), 1, 1)), ((1, 3, 5), (6,)))
        self.assertEqual(len(SizedDay(THERE, (((0, 1, 0), 1, 2), ((0,), 1, 1)), ((1, 3, 5), (7,))).hours), 2)

    def test_the_first_part_that_is_not_as_told(self):
        self.assert_bad("letters", LINE, None, None)
        self.assert_bad("hours", LINE, LETTERS, ((1, 1), ("3",)))
        self.assert_bad("early", LINE, (((0,), 5, 1), ((0,), 1, 2), ((0,), 1, 1)), ((4,), (1,), (2,)))
        self.assert_bad("full", LINE, (((0,), 4, 1), ((0,), 1, 2), ((0,), 1, 1)), ((4,), (1,), (2,)))

    def test_equal_just_if_the_three_are(self):
        day = SizedDay(LINE, LETTERS, HOURS)
        self.assertTrue(day == SizedDay(Web(4, LINE.roads, LINE.rooms, LINE.times), LETTERS, HOURS))
        longer = Web(5, LINE.roads, LINE.rooms, LINE.times)
        for told in ((longer, LETTERS, HOURS), (LINE, (((0, 1), 1, 2), ((1,), 3, 1)), HOURS),
                     (LINE, (((0, 1), 2, 1), ((1,), 3, 1)), HOURS), (LINE, LETTERS, ((2, 5), (3,))), (LINE, (), ())):
            self.assertFalse(day == SizedDay(*told))
            self.assertTrue(day != SizedDay(*told))
        empty = SizedDay(LINE, (), ())
        for thing in ODD + [EMPTY, (), (LINE, (), ())]:
            with self.subTest(name_of(thing)):
                self.assertIs(empty == thing, False)
                self.assertIs(thing == empty, False)

    def test_everything_is_defined_where_the_interface_lists_it(self):
        for name in ("SizedDay", "sized_cards", "is_sized_enough", "is_sized_trap", "SizedHall", "sized_trap"):
            self.assertEqual(getattr(module, name).__module__, "hourcards.sized")
        self.assertIn("__eq__", vars(SizedDay))
        for name in ("now", "come", "tick", "waiting", "so_far", "left"):
            self.assertIn(name, vars(SizedHall))


class Cards(unittest.TestCase):

    def test_by_hand(self):
        day = SizedDay(LINE, LETTERS, HOURS)
        self.assertEqual(sized_cards(day, ()), (((0, 1), 2, 2, 5, (None, None)), ((1,), 3, 1, 3, (None,))))
        self.assertEqual(sized_cards(day, (0,)), (((0, 1), 2, 2, 5, (2, None)), ((1,), 3, 1, 3, (None,))))
        self.assertEqual(sized_cards(day, (0, 1, 2)), (((0, 1), 2, 2, 5, (2, 4)), ((1,), 3, 1, 3, (3,))))
        self.assertEqual(sized_cards(SIZED, (0, 1)), (((0, 1), 1, 2, 4, (1, 3)), ((0,), 2, 1, 3, (3,))))
        self.assertEqual(sized_cards(SizedDay(LINE, (), ()), ()), ())

    def test_no_lot(self):
        for thing in ODD + NO_LOTS:
            if thing != ():
                with self.subTest(name_of(thing)), self.assertRaises(NoLot):
                    sized_cards(SIZED, thing)

    def come(self, web, lot, card):
        """Whether the card is a right one, as a hall judges it at its tick."""
        hall = SizedHall(web, lot)
        while hall.now() < card[1]:
            hall.tick()
        try:
            hall.come(card)
        except NoCard:
            return False
        return True

    def test_hours_that_a_letter_alone_could_have(self):
        # Road 2 is silent. A letter of size 2 may pass the roads at 4, 6 and 8, and is home at 9.
        lot = (0, 1)
        for told, home, right in (((4, 6, None), 9, True), ((4, 6, None), 8, False), ((4, 7, None), 10, True),
                                  ((4, 7, None), 9, False), ((5, 6, None), 99, False), ((3, 6, None), 99, False),
                                  ((4, 5, None), 99, False), ((4, 6, None), 10 ** 7, True)):
            with self.subTest(told, home=home):
                self.assertIs(self.come(LINE, lot, ((0, 1, 2), 4, 2, home, told)), right)
        for told, home, right in (((4, 5, None), 6, True), ((4, 5, None), 5, False), ((4, 4, None), 9, False)):
            self.assertIs(self.come(LINE, lot, ((0, 1, 2), 4, 1, home, told)), right)

    def test_home_of_a_told_last_road(self):
        for size, home, right in ((2, 7, True), (2, 6, False), (2, 8, False), (1, 6, True), (1, 7, False)):
            self.assertIs(self.come(LINE, (0, 1), ((0, 1), 4, size, home, (4, 6))), right)
        self.assertIs(self.come(LINE, (0, 1), ((2,), 4, 2, 5, (None,))), True)
        self.assertIs(self.come(LINE, (0, 1), ((2,), 4, 2, 4, (None,))), False)


class Lots(unittest.TestCase):

    def test_each_road_that_leads_on(self):
        for web, lot, right in ((LINE, (0, 1), True), (LINE, (0, 1, 2), True), (LINE, (0,), False), (LINE, (1, 2), False),
                                (LINE, (), False), (PARTING, (0,), True), (PARTING, (), False), (THERE, (0,), False),
                                (THERE, (0, 1), True), (Web(2, ((0, 1),), (1,), (1,)), (), True), (RING, (0, 1), False)):
            with self.subTest(lot, roads=web.roads):
                self.assertIs(is_sized_enough(web, lot), right)

    def test_what_is_no_lot_is_not_enough(self):
        for thing in ODD + NO_LOTS + [[0, 1], (1, 0), (0, True)]:
            if thing != ():
                with self.subTest(name_of(thing)):
                    self.assertIs(is_sized_enough(LINE, thing), False)

    def test_not_plain(self):
        for web in (BACK, FORK, Web(4, LINE.roads, (1, 1, 2), (1, 1, 1))):
            for thing in (None, (), (0, 1)):
                with self.assertRaises(NotPlain):
                    is_sized_enough(web, thing)


class Halls(unittest.TestCase):

    def test_by_hand(self):
        hall = SizedHall(LINE, (0, 1))
        self.assertEqual((hall.now(), hall.waiting(), hall.so_far(), hall.left()), (1, [], (), 0))
        hall.come(((0, 1), 1, 2, 4, (1, 3)))
        self.assertEqual(hall.waiting(), [(0, 0)])
        self.assertEqual(hall.tick(), [(0, 0)])
        # Road 0 is busy at tick 2, so nobody may be passed there.
        hall.come(((0,), 2, 1, 3, (3,)))
        self.assertEqual((hall.now(), hall.waiting(), hall.left()), (2, [], 2))
        self.assertEqual(hall.tick(), [])
        self.assertEqual(hall.waiting(), [(0, 1), (1, 0)])
        self.assertEqual(hall.tick(), [(0, 1), (1, 0)])
        self.assertEqual((hall.so_far(), hall.left(), hall.now()), (((1, 3), (3,)), 0, 4))
        # The last passing has begun, but road 1 is busy.
        hall.come(((1,), 4, 1, 5, (5,)))
        self.assertEqual((hall.waiting(), hall.left()), ([], 1))
        self.assertEqual([hall.tick(), hall.waiting(), hall.tick()], [[], [(1, 2)], [(1, 2)]])

    def test_a_letter_that_wants_to_wait(self):
        # Letter 0 takes two ticks and waits for the hour that is told, as another comes at 2.
        hall = SizedHall(LINE, (0, 1))
        hall.come(((0, 1), 1, 2, 6, (3, 5)))
        self.assertEqual(hall.waiting(), [(0, 0)])
        self.assertEqual(hall.tick(), [])
        hall.come(((0,), 2, 1, 2, (2,)))
        self.assertEqual(hall.tick(), [(0, 1)])
        self.assertEqual([hall.tick(), hall.tick(), hall.tick()], [[(0, 0)], [], [(1, 0)]])
        self.assertEqual(hall.so_far(), ((3, 5), (2,)))

    def test_a_silent_road_that_ends_ways(self):
        # At road 2 the hours are known by home and size.
        hall = SizedHall(LINE, (0, 1))
        hall.come(((2,), 1, 2, 4, (None,)))
        self.assertEqual(hall.tick(), [])
        hall.come(((2,), 2, 1, 2, (None,)))
        self.assertEqual([hall.tick(), hall.tick(), hall.left()], [[(2, 1)], [(2, 0)], 0])

    def test_so_far_has_none_where_nobody_was_passed(self):
        hall = SizedHall(FOUR, (0, 1, 2))
        hall.come(((0, 1, 2), 1, 1, 3, (1, 2, 3)))
        self.assertEqual(hall.so_far(), ((None, None, None),))
        hall.tick()
        self.assertEqual(hall.so_far(), ((1, None, None),))

    def test_errors_in_their_order(self):
        for web in (BACK, FORK):
            with self.assertRaises(NotPlain):
                SizedHall(web, None)
        for thing in ODD + NO_LOTS:
            if thing != ():
                with self.subTest(name_of(thing)), self.assertRaises(NoLot):
                    SizedHall(LINE, thing)
        for web, lot, road in ((LINE, (), 0), (LINE, (0,), 1), (LINE, (1, 2), 0), (THERE, (0,), 1), (PARTING, (1, 2), 0),
                               (RING, (0, 1), 2)):
            with self.assertRaises(NotEnough) as caught:
                SizedHall(web, lot)
            self.assertEqual(caught.exception.place, road)
        self.assertEqual(SizedHall(PARTING, (0,)).now(), 1)

    def test_no_card(self):
        right = ((0, 1), 1, 2, 4, (1, 3))
        hall = SizedHall(LINE, (0, 1))
        wrong = [list(right), (), right[:4], right + (None,), (right,), ((0, 1), 1, 2, (1, None)), ((0, 2),) + right[1:],
                 ([0, 1],) + right[1:], ((0, True),) + right[1:], ((0,),) + right[1:], (right[0], 2) + right[2:],
                 (right[0], True) + right[2:], (right[0], 0) + right[2:], (right[0], "1") + right[2:],
                 right[:2] + (1, 4, (1, 3)), right[:2] + (0, 4, (1, 3)), right[:2] + (3, 4, (1, 3)),
                 right[:2] + (True, 3, (1, 3)), right[:2] + (None, 4, (1, 3)), right[:2] + ("2", 4, (1, 3)),
                 right[:3] + (3, (1, 3)), right[:3] + (5, (1, 3)), right[:3] + (True, (1, 3)), right[:3] + (None, (1, 3)),
                 right[:4] + ([1, 3],), right[:4] + ((1,),), right[:4] + ((1, None),), right[:4] + ((True, 3),),
                 right[:4] + ((1, 3, None),), right[:4] + ((0, 3),), right[:4] + ((2, 3),), right[:4] + ("13",),
                 right[:4] + (nested(tuple, 39),), {0: right}, SIZED]
        for thing in ODD + wrong:
            with self.subTest(name_of(thing)), self.assertRaises(NoCard):
                hall.come(thing)
            self.assertEqual((hall.left(), hall.so_far(), hall.waiting(), hall.now()), (0, (), [], 1))
        hall.come(right)
        hall.tick()
        with self.assertRaises(NoCard):
            hall.come(right)
        self.assertEqual(hall.left(), 1)

    def test_lists_are_new(self):
        hall = SizedHall(LINE, (0, 1))
        hall.come(((0, 1), 1, 2, 4, (1, 3)))
        hall.waiting().append(None)
        self.assertEqual(hall.waiting(), [(0, 0)])
        hall.tick().append(None)
        self.assertEqual(hall.so_far(), ((1, None),))

    def test_halls_go_apart_and_are_equal_to_nothing_else(self):
        one, other = SizedHall(LINE, (0, 1)), SizedHall(LINE, (0, 1))
        one.come(((2,), 1, 1, 1, (None,)))
        other.tick()
        self.assertEqual((one.now(), one.left(), other.now(), other.left()), (1, 1, 2, 0))
        for thing in ODD:
            self.assertIs(one == thing, False)


class FifthFact(unittest.TestCase):

    def check(self, rng, day, lot):
        bearers = sized_cards(day, lot)
        order = list(range(len(bearers)))
        rng.shuffle(order)
        order.sort(key=lambda letter: bearers[letter][1])
        hall = SizedHall(day.web, lot)
        left = list(order)
        busy = {}
        while left or hall.left():
            while left and bearers[left[0]][1] == hall.now():
                hall.come(bearers[left.pop(0)])
            waits, now = hall.waiting(), hall.now()
            self.assertEqual(waits, sorted(waits))
            self.assertFalse([pair for pair in waits if (pair[0], now) in busy])
            for road, letter in hall.tick():
                self.assertIn((road, letter), waits)
                for more in range(bearers[order[letter]][2]):
                    busy[(road, now + more)] = True
            self.assertLess(now, 1000)
        hours = hall.so_far()
        # They are lawful, and all are home.
        SizedDay(day.web, tuple([day.letters[letter] for letter in order]), hours)
        for letter, row in zip(order, hours):
            self.assertLessEqual(row[-1] + bearers[letter][2] - 1, bearers[letter][3])

    def test_days_drawn_at_random(self):
        rng = random.Random(81)
        for _ in range(500):
            web = plain_web(rng)
            day = led_day(rng, web, drawn_letters(rng, web, 20), rng.choice([0, 0.2, 0.5]))
            lot = tuple([road for road in range(len(web.roads)) if next_roads(web, road) or rng.random() < 0.3])
            self.check(rng, day, lot)

    def test_just_the_roads_that_lead_on(self):
        rng = random.Random(82)
        for web in (LINE, THERE, RING, PARTING, FOUR):
            for _ in range(60):
                day = led_day(rng, web, drawn_letters(rng, web, 12), rng.choice([0, 0.3]))
                self.check(rng, day, tuple([road for road in range(len(web.roads)) if next_roads(web, road)]))

    def test_letters_that_end_one_right_behind_the_other(self):
        # Each of the hours is right behind the home hour ahead of it.
        letters = (((0,), 1, 2), ((0,), 1, 2), ((0,), 1, 1), ((0,), 1, 2))
        day = SizedDay(PARTING, letters, ((1,), (6,), (5,), (3,)))
        self.assertEqual([card[3] for card in sized_cards(day, (0,))], [2, 7, 5, 4])
        self.check(random.Random(83), day, (0,))
        ends = SizedDay(PARTING, tuple([((1,),) + letter[1:] for letter in letters]), day.hours)
        self.check(random.Random(84), ends, (0,))


if __name__ == "__main__":
    unittest.main()
