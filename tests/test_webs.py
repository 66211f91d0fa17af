"""Webs, ways and lots (part 1, and 0.2 to 0.4 of them)."""

import unittest

from hourcards import webs
from hourcards.errors import BadWeb, NoRoad
from hourcards.webs import Web, is_lot, is_way, next_roads
from tests.samples import BACK, DAY, FORK, LARGE, LINE, ODD, name_of, nested

RIGHT = (3, ((0, 1), (1, 2)), (1, 3), (2, 1))
NAMES = ("houses", "roads", "rooms", "times")


class Webs(unittest.TestCase):

    def assert_bad(self, part, *told):
        with self.assertRaises(BadWeb) as caught:
            Web(*told)
        self.assertEqual(caught.exception.part, part)

    def test_its_attributes_are_the_four(self):
        web = Web(*RIGHT)
        self.assertEqual((web.houses, web.roads, web.rooms, web.times), RIGHT)
        self.assertEqual(sorted(vars(web)), sorted(NAMES))

    def test_edges_of_the_sizes(self):
        self.assertEqual(Web(2, ((0, 1),), (1,), (1,)).houses, 2)
        self.assertEqual(Web(2, ((1, 0),), (3,), (3,)).roads, ((1, 0),))
        self.assertEqual(len(LARGE.roads), 24)
        self.assertEqual(LARGE.houses, 12)
        self.assertEqual(Web(12, ((0, 11),), (2,), (2,)).roads, ((0, 11),))

    def test_alike_roads_and_roads_there_and_back_are_let(self):
        roads = ((0, 1),) * 12 + ((1, 0),) * 12
        self.assertEqual(Web(2, roads, (1,) * 24, (3,) * 24).roads, roads)

    def test_bad_houses(self):
        for houses in ODD + [0, 1, 13, -2, 10 ** 39, -10 ** 39, [], (), {}, (3,), "3"]:
            with self.subTest(name_of(houses)):
                self.assert_bad("houses", houses, *RIGHT[1:])

    def test_bad_roads(self):
        wrong = [
            (), [], {}, [(0, 1), (1, 2)], ([0, 1], (1, 2)), ((0, 1), [1, 2]), ((0, 1), (1, 3)), ((0, 1), (1, 1)),
            ((0, 1), (-1, 2)), ((0, 1), (1,)), ((0, 1), (1, 2, 0)), ((0, 1), ()), ((0, True), (1, 2)),
            ((False, 1), (1, 2)), ((0, 1), "12"), ((0, 1), b"\x01\x02"), ((0, 1), {1: 1, 2: 2}), ((0, "1"), (1, 2)),
            ((0, 1), (1, None)), (0, 1), ((0, 1), (1, 10 ** 39)), ((0, 1), (nested(tuple, 38), 2)), ((0, 1),) * 25,
            ((0, 1),) * 3333, ((0, 1), (1, LINE)), {(0, 1): (1, 2)}, {0: (0, 1), 1: (1, 2)},
        ]
        for roads in ODD + wrong:
            with self.subTest(name_of(roads)):
                self.assert_bad("roads", RIGHT[0], roads, *RIGHT[2:])

    def test_bad_rooms_and_times(self):
        wrong = [
            (), [], {}, [1, 1], (1,), (1, 1, 1), (0, 1), (1, 4), (-1, 1), (1, True), (True, 1), (1, False), (1, None),
            (1, "1"), (1, (1,)), ((1,), (1,)), "11", b"\x01\x01", {0: 1, 1: 1}, (1, 10 ** 39), (1, LINE),
            (1, nested(tuple, 39)), (1, [1]), 1, 2, range(1, 3),
        ]
        for thing in ODD + wrong:
            with self.subTest(name_of(thing)):
                self.assert_bad("rooms", RIGHT[0], RIGHT[1], thing, RIGHT[3])
                self.assert_bad("times", RIGHT[0], RIGHT[1], RIGHT[2], thing)

    def test_the_first_part_that_is_not_as_told(self):
        for at, part in enumerate(NAMES):
            told = RIGHT[:at] + (None,) * (4 - at)
            with self.subTest(part):
                self.assert_bad(part, *told)

    def test_one_road_too_many_is_told_ahead_of_its_rooms(self):
        self.assert_bad("roads", 2, ((0, 1),) * 25, (0,) * 25, (1,) * 25)

    def test_equal_just_if_the_four_are(self):
        self.assertTrue(Web(*RIGHT) == Web(*RIGHT))
        self.assertFalse(Web(*RIGHT) != Web(*RIGHT))
        others = [
            (4, RIGHT[1], RIGHT[2], RIGHT[3]), (3, ((0, 1), (1, 0)), RIGHT[2], RIGHT[3]),
            (3, ((1, 2), (0, 1)), RIGHT[2], RIGHT[3]), (3, RIGHT[1], (1, 2), RIGHT[3]), (3, RIGHT[1], RIGHT[2], (1, 1)),
        ]
        for told in others:
            with self.subTest(told):
                self.assertFalse(Web(*RIGHT) == Web(*told))
                self.assertTrue(Web(*RIGHT) != Web(*told))

    def test_equal_to_nothing_of_another_class_or_kind(self):
        for thing in ODD + [RIGHT, list(RIGHT), 0, (), DAY]:
            if thing is not LINE:
                with self.subTest(name_of(thing)):
                    self.assertIs(LINE == thing, False)
                    self.assertIs(thing == LINE, False)
        self.assertIs(Web(*RIGHT) == RIGHT, False)

    def test_everything_is_defined_where_the_interface_lists_it(self):
        for name in ("Web", "next_roads", "is_way", "is_lot"):
            self.assertEqual(getattr(webs, name).__module__, "hourcards.webs")
        self.assertIn("__eq__", vars(Web))


class NextRoads(unittest.TestCase):

    def test_they_begin_where_the_road_ends(self):
        self.assertEqual(next_roads(LINE, 0), (1,))
        self.assertEqual(next_roads(LINE, 1), (2,))
        self.assertEqual(next_roads(LINE, 2), ())
        self.assertEqual(next_roads(FORK, 0), (2, 4))
        self.assertEqual(next_roads(FORK, 1), (2, 4))
        self.assertEqual(next_roads(FORK, 2), (3,))
        self.assertEqual(next_roads(FORK, 4), ())

    def test_alike_roads_and_there_and_back(self):
        self.assertEqual(next_roads(BACK, 0), (1,))
        self.assertEqual(next_roads(BACK, 1), (0,))
        web = Web(2, ((0, 1), (1, 0), (0, 1), (1, 0)), (1,) * 4, (1,) * 4)
        self.assertEqual(next_roads(web, 0), (1, 3))
        self.assertEqual(next_roads(web, 3), (0, 2))

    def test_the_largest_web(self):
        self.assertEqual(next_roads(LARGE, 0), (1, 12))
        self.assertEqual(next_roads(LARGE, 11), (0, 23))
        # Road 23 goes from house 0 to 11; there road 11 goes on, and road 22 goes back to 10.
        self.assertEqual(next_roads(LARGE, 23), (11, 22))

    def test_no_number_of_a_road(self):
        for road in ODD + [-1, 3, 24, 10 ** 39, -10 ** 39, (0,), [0], "1", [], (), {}]:
            with self.subTest(name_of(road)), self.assertRaises(NoRoad):
                next_roads(LINE, road)
        with self.assertRaises(NoRoad):
            next_roads(LARGE, 24)


class Ways(unittest.TestCase):

    def test_each_road_is_next_to_the_one_ahead(self):
        for way in ((0,), (1,), (2,), (0, 1), (1, 2), (0, 1, 2)):
            with self.subTest(way):
                self.assertIs(is_way(LINE, way), True)
        for way in ((0, 2), (1, 0), (0, 0), (0, 1, 0), (2, 1), (0, 1, 2, 0), (3,), (-1,), (0, 1, 2, 3), (0, -2)):
            with self.subTest(way):
                self.assertIs(is_way(LINE, way), False)

    def test_from_one_to_eight_roads_that_may_come_again(self):
        self.assertIs(is_way(BACK, ()), False)
        self.assertIs(is_way(BACK, (1,)), True)
        self.assertIs(is_way(BACK, (0, 1) * 4), True)
        self.assertIs(is_way(BACK, (1, 0, 1, 0, 1, 0, 1)), True)
        self.assertIs(is_way(BACK, (0, 1) * 4 + (0,)), False)
        self.assertIs(is_way(BACK, (0, 1) * 5000), False)

    def test_an_alike_road_is_not_next(self):
        self.assertIs(is_way(FORK, (0, 2, 3)), True)
        self.assertIs(is_way(FORK, (1, 4)), True)
        self.assertIs(is_way(FORK, (0, 1)), False)

    def test_things_that_are_no_ways(self):
        for thing in ODD + [[0], [0, 1], 0, "01", b"\x00\x01", {0: 1}, ((0,),), (0, [1]), (0, True), (False, 1),
                            (0, None), (0, "1"), (0, (1,)), (0, 10 ** 39), (0, nested(list, 39)), (0, LINE)]:
            with self.subTest(name_of(thing)):
                self.assertIs(is_way(LINE, thing), False)


class Lots(unittest.TestCase):

    def test_ascending_unlike_numbers(self):
        for lot in ((), (0,), (2,), (0, 2), (0, 1, 2)):
            with self.subTest(lot):
                self.assertIs(is_lot(LINE, lot), True)
        for lot in ((1, 0), (0, 0), (0, 2, 1), (0, 1, 1), (3,), (-1,), (0, 3), (-1, 0)):
            with self.subTest(lot):
                self.assertIs(is_lot(LINE, lot), False)
        self.assertIs(is_lot(LARGE, tuple(range(24))), True)
        self.assertIs(is_lot(LARGE, tuple(range(25))), False)

    def test_things_that_are_no_lots(self):
        for thing in ODD + [[], {}, [0], 0, "012", b"\x00\x01", {0: 1}, ((0,),), (0, [1]), (0, True), (False, 1),
                            (0, None), (0, "1"), (0, (1,)), (0, 10 ** 39), (0, nested(dict, 39)), (0, LINE)]:
            with self.subTest(name_of(thing)):
                self.assertIs(is_lot(LINE, thing), False)


class WebsOfAnySize(unittest.TestCase):

    def test_a_web_that_was_returned_is_one_for_every_function(self):
        web = Web(2, ((0, 1),), (1,), (1,))
        # As a module that returns longer lines makes them.
        web.houses, web.roads = 31, tuple([(k, k + 1) for k in range(30)])
        web.rooms, web.times = (1,) * 30, (1,) * 30
        self.assertEqual(next_roads(web, 28), (29,))
        self.assertIs(is_way(web, tuple(range(22, 30))), True)
        self.assertIs(is_way(web, tuple(range(21, 30))), False)
        self.assertIs(is_lot(web, tuple(range(30))), True)


if __name__ == "__main__":
    unittest.main()
