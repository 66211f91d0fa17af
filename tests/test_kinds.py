"""Bad places and kinds (4)."""

import itertools
import random
import unittest

from hourcards import kinds as module
from hourcards.errors import NoLot, NoSort
from hourcards.kinds import bad_places, is_bad_place, is_enough, is_kinds, kinds
from hourcards.webs import Web
from tests.drawn import drawn_web
from tests.samples import BACK, FORK, FOUR, LARGE, LINE, ODD, RING, name_of, nested
from tests.test_cards import NO_LOTS, NO_SORTS

SORTS = ("hours", "turns")
# Road 0 comes to a house from which 1 and 2 go on; 3 is behind 1, and 2 leads nowhere.
PARTING = Web(5, ((0, 1), (1, 2), (1, 3), (2, 4)), (1,) * 4, (1,) * 4)


def looked_at(web, lot, sort):
    """The bad places as 4.1 names them, road by road."""
    roads = range(len(web.roads))

    def is_next(road, other):
        return web.roads[road][1] == web.roads[other][0]

    def leads_on(road):
        return any(is_next(road, other) for other in roads)

    def may_end(road):
        return leads_on(road) and (road not in lot or sort == "turns")

    found = []
    for a, b in itertools.product(roads, roads):
        if a not in lot and is_next(a, b) and may_end(b) and any(is_next(a, c) and c != b for c in roads):
            found.append(("fork", a, b))
    for a, m, b in itertools.product(roads, roads, roads):
        if a not in lot and m not in lot and is_next(a, m) and is_next(m, b) and may_end(b):
            found.append(("row", a, m, b))
    return sorted(found)


class BadPlaces(unittest.TestCase):

    def test_the_examples(self):
        self.assertEqual(bad_places(FOUR, (), "hours"), [("row", 0, 1, 2)])
        self.assertEqual(kinds(LINE, (), "hours"), ("first", "second", "end"))
        self.assertIs(is_enough(FOUR, "hours", (1,)), True)

    def test_rows(self):
        five = Web(6, tuple([(k, k + 1) for k in range(5)]), (1,) * 5, (1,) * 5)
        self.assertEqual(bad_places(five, (), "hours"), [("row", 0, 1, 2), ("row", 1, 2, 3)])
        self.assertEqual(bad_places(five, (0,), "hours"), [("row", 1, 2, 3)])
        self.assertEqual(bad_places(five, (3,), "hours"), [("row", 0, 1, 2)])
        self.assertEqual(bad_places(five, (2,), "hours"), [])
        self.assertEqual(bad_places(five, (4,), "hours"), [("row", 0, 1, 2), ("row", 1, 2, 3)])
        # For turns it does not help to tell the last one.
        self.assertEqual(bad_places(five, (2,), "turns"), [("row", 0, 1, 2)])
        self.assertEqual(bad_places(five, (3,), "turns"), [("row", 0, 1, 2), ("row", 1, 2, 3)])
        self.assertEqual(bad_places(five, (1,), "turns"), [])

    def test_forks(self):
        self.assertEqual(bad_places(PARTING, (), "hours"), [("fork", 0, 1)])
        self.assertEqual(bad_places(PARTING, (2,), "hours"), [("fork", 0, 1)])
        self.assertEqual(bad_places(PARTING, (1,), "hours"), [])
        self.assertEqual(bad_places(PARTING, (0,), "hours"), [])
        self.assertEqual(bad_places(PARTING, (1,), "turns"), [("fork", 0, 1)])
        self.assertEqual(bad_places(PARTING, (0,), "turns"), [])
        self.assertEqual(bad_places(FORK, (), "hours"), [("fork", 0, 2), ("fork", 1, 2)])
        self.assertEqual(bad_places(FORK, (1,), "hours"), [("fork", 0, 2)])

    def test_alike_next_roads_part_as_well(self):
        web = Web(4, ((0, 1), (1, 2), (1, 2), (2, 3)), (1,) * 4, (1,) * 4)
        self.assertEqual(bad_places(web, (), "hours"), [("fork", 0, 1), ("fork", 0, 2)])
        self.assertEqual(bad_places(web, (1,), "hours"), [("fork", 0, 2)])
        self.assertEqual(bad_places(web, (1,), "turns"), [("fork", 0, 1), ("fork", 0, 2)])

    def test_a_row_whose_first_and_last_road_are_the_same(self):
        for sort in SORTS:
            self.assertEqual(bad_places(BACK, (), sort), [("row", 0, 1, 0), ("row", 1, 0, 1)])
            self.assertEqual(bad_places(BACK, (0,), sort), [])
            self.assertEqual(bad_places(BACK, (1,), sort), [])
        self.assertEqual(bad_places(RING, (), "hours"), [("row", 0, 1, 2), ("row", 1, 2, 0), ("row", 2, 0, 1)])
        self.assertEqual(bad_places(RING, (2,), "hours"), [])
        self.assertEqual(bad_places(RING, (2,), "turns"), [("row", 0, 1, 2)])

    def test_all_roads_told_and_none(self):
        for web in (LINE, BACK, FORK, LARGE, RING, PARTING):
            for sort in SORTS:
                self.assertEqual(bad_places(web, tuple(range(len(web.roads))), sort), [])
                self.assertEqual(bad_places(web, (), sort), looked_at(web, (), sort))
        single = Web(2, ((0, 1),), (1,), (1,))
        self.assertEqual(bad_places(single, (), "turns"), [])

    def test_as_the_document_names_them(self):
        rng = random.Random(41)
        for _ in range(500):
            web = drawn_web(rng)
            lot = tuple([road for road in range(len(web.roads)) if rng.random() < 0.4])
            for sort in SORTS:
                self.assertEqual(bad_places(web, lot, sort), looked_at(web, lot, sort))

    def test_the_list_is_new(self):
        bad_places(FOUR, (), "hours").append(None)
        self.assertEqual(bad_places(FOUR, (), "hours"), [("row", 0, 1, 2)])

    def test_no_lot_then_no_sort(self):
        for function in (bad_places, kinds):
            for thing in NO_LOTS:
                with self.subTest(name_of(thing)), self.assertRaises(NoLot):
                    function(LINE, thing, None)
            for thing in NO_SORTS:
                with self.subTest(name_of(thing)), self.assertRaises(NoSort):
                    function(LINE, (), thing)

    def test_what_is_a_bad_place(self):
        self.assertIs(is_bad_place(FOUR, (), "hours", ("row", 0, 1, 2)), True)
        wrong = [("row", False, 1, 2), ("row", 0, True, 2), ("row", 0, 1), ("fork", 0, 1), ("row", 0, 1, 2, 3), (),
                 ["row", 0, 1, 2], (b"row", 0, 1, 2), ("row", "0", 1, 2), ("row", (0,), 1, 2), ("row", 1, 2, 3),
                 ("row", nested(tuple, 39), 1, 2), (0, 1, 2), "row", {"row": 0}, ("row", LINE, 1, 2)]
        for thing in ODD + wrong:
            with self.subTest(name_of(thing)):
                self.assertIs(is_bad_place(FOUR, (), "hours", thing), False)

    def test_everything_is_defined_where_the_interface_lists_it(self):
        for name in ("bad_places", "is_enough", "kinds", "is_kinds"):
            self.assertEqual(getattr(module, name).__module__, "hourcards.kinds")


class Enough(unittest.TestCase):

    def test_if_there_is_no_bad_place(self):
        for lot, sort, right in (((), "hours", False), ((0,), "hours", True), ((1,), "hours", True), ((2,), "hours", True),
                                 ((3,), "hours", False), ((0,), "turns", True), ((1,), "turns", True),
                                 ((2,), "turns", False), ((3,), "turns", False), ((0, 1, 2, 3), "turns", True)):
            with self.subTest(lot, sort=sort):
                self.assertIs(is_enough(FOUR, sort, lot), right)

    def test_what_is_no_lot_is_not_enough(self):
        for thing in ODD + NO_LOTS:
            if thing != ():
                with self.subTest(name_of(thing)):
                    self.assertIs(is_enough(LINE, "hours", thing), False)
                    self.assertIs(is_enough(LINE, "turns", thing), False)

    def test_no_sort(self):
        for thing in NO_SORTS:
            with self.subTest(name_of(thing)), self.assertRaises(NoSort):
                is_enough(LINE, thing, None)


class Kinds(unittest.TestCase):

    def test_kinds_for_hours(self):
        told = (
            (FOUR, (0,), ("told", "first", "second", "end")), (FOUR, (1,), ("second", "told", "second", "end")),
            (FOUR, (2,), ("first", "second", "told", "end")), (FOUR, (3,), None), (FOUR, (), None),
            (FOUR, (2, 3), ("first", "second", "told", "told")), (FOUR, (0, 1, 2, 3), ("told",) * 4),
            (PARTING, (), None), (PARTING, (1,), ("second", "told", "end", "end")),
            (PARTING, (0,), ("told", "second", "end", "end")), (BACK, (0,), ("told", "second")), (BACK, (), None),
            (RING, (1,), ("second", "told", "first")), (RING, (), None),
        )
        for web, lot, found in told:
            with self.subTest(lot=lot, roads=web.roads):
                self.assertEqual(kinds(web, lot, "hours"), found)

    def test_kinds_for_turns(self):
        told = (
            (FOUR, (0,), ("told", "first", "second", "end")), (FOUR, (1,), ("queue", "told", "second", "end")),
            (FOUR, (2,), None), (FOUR, (), None), (FOUR, (1, 3), ("queue", "told", "second", "told")),
            (FOUR, (0, 2), ("told", "queue", "told", "end")), (LINE, (), ("first", "second", "end")),
            (LINE, (2,), ("first", "second", "told")), (PARTING, (1,), None),
            (PARTING, (0,), ("told", "second", "end", "end")), (BACK, (0,), ("told", "queue")),
            (RING, (1,), None), (RING, (0, 1), ("told", "told", "queue")),
        )
        for web, lot, found in told:
            with self.subTest(lot=lot, roads=web.roads):
                self.assertEqual(kinds(web, lot, "turns"), found)

    def test_a_first_road_ahead_of_roads_that_part_to_their_ends(self):
        # Behind 0 there is 1 alone, behind that two roads that lead nowhere.
        web = Web(5, ((0, 1), (1, 2), (2, 3), (2, 4)), (1,) * 4, (1,) * 4)
        for sort in SORTS:
            self.assertEqual(kinds(web, (), sort), ("first", "second", "end", "end"))

    def test_there_are_kinds_exactly_if_the_lot_is_enough(self):
        rng = random.Random(42)
        found = {True: 0, False: 0}
        for _ in range(1500):
            web = drawn_web(rng)
            lot = tuple([road for road in range(len(web.roads)) if rng.random() < rng.choice([0.2, 0.6])])
            for sort in SORTS:
                enough = looked_at(web, lot, sort) == []
                found[enough] += 1
                self.assertEqual(kinds(web, lot, sort) is not None, enough)
                self.assertIs(is_enough(web, sort, lot), enough)
        self.assertGreater(min(found.values()), 500)

    def test_each_lot_of_small_webs(self):
        for web in (FOUR, RING, BACK, FORK, PARTING):
            for many in range(len(web.roads) + 1):
                for lot in itertools.combinations(range(len(web.roads)), many):
                    for sort in SORTS:
                        self.assertEqual(kinds(web, lot, sort) is not None, looked_at(web, lot, sort) == [])

    def test_is_kinds(self):
        right = ("first", "second", "end")
        self.assertIs(is_kinds(LINE, (), "hours", right), True)
        wrong = [list(right), right[:2], right + ("end",), ("first", "second", "told"), (b"first", b"second", b"end"),
                 "first", ("first", "second", None), ("first", "second", True), (right,), {0: right}, (), 0,
                 ("first", "second", ("end",)), ("first", "second", LINE)]
        for thing in ODD + wrong:
            with self.subTest(name_of(thing)):
                self.assertIs(is_kinds(LINE, (), "hours", thing), False)

    def test_where_there_are_none_nothing_is_kinds(self):
        for thing in ODD + [("first", "first", "second", "end"), ()]:
            with self.subTest(name_of(thing)):
                self.assertIs(is_kinds(FOUR, (), "hours", thing), False)

    def test_errors_of_is_kinds(self):
        for thing in NO_LOTS:
            with self.subTest(name_of(thing)), self.assertRaises(NoLot):
                is_kinds(LINE, thing, None, None)
        for thing in NO_SORTS:
            with self.subTest(name_of(thing)), self.assertRaises(NoSort):
                is_kinds(FOUR, (), thing, None)


if __name__ == "__main__":
    unittest.main()
