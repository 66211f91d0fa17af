"""What the document says of the whole program: its examples, its interface, and what holds everywhere (part 0)."""

import copy
import importlib
import inspect
import random
import unittest

from hourcards.cards import alike, are_cards, cards, late
from hourcards.days import Day, laid_over, made_day, shifted, waiting, without
from hourcards.desk import Desk
from hourcards.errors import HourError, TooMany
from hourcards.floors import floor, is_floor
from hourcards.halls import Hall, missed, played
from hourcards.kinds import bad_places, is_enough, is_kinds, kinds
from hourcards.lines import line_least, line_lot, line_lots, line_number, line_web, ring_least, ring_lots, ring_web
from hourcards.lots import cheapest_lot, least_lots, least_size, many_enough
from hourcards.plans import PlanHall, is_plan_trap, least_plan, plan_cards, plan_gaps, plan_trap
from hourcards.reading import read_day, read_web
from hourcards.roots import root, root_hours
from hourcards.saving import savable
from hourcards.sized import SizedDay, SizedHall, is_sized_enough, is_sized_trap, sized_cards, sized_trap
from hourcards.strangers import beaten, stranger_hours
from hourcards.texts import day_text, web_text
from hourcards.traps import is_trap, trap
from hourcards.webs import Web, is_lot, is_way, next_roads
from tests.drawn import is_tried_trap
from tests.samples import ODD, name_of
from tests.test_plans import LAST

SORTS = ("hours", "turns")
# The interface: for each file its functions and classes with how many arguments they take, and the methods of classes.
FUNCTIONS = {
    "webs": {"Web": 4, "next_roads": 2, "is_way": 2, "is_lot": 2},
    "days": {"Day": 3, "waiting": 2, "made_day": 4, "without": 2, "shifted": 2, "laid_over": 2},
    "cards": {"cards": 3, "are_cards": 4, "alike": 5, "late": 2},
    "kinds": {"bad_places": 3, "is_enough": 3, "is_kinds": 4, "kinds": 3},
    "halls": {"Hall": 3, "played": 4, "missed": 4},
    "traps": {"trap": 6, "is_trap": 6},
    "saving": {"savable": 6},
    "strangers": {"stranger_hours": 4, "beaten": 7},
    "sized": {"SizedDay": 3, "sized_cards": 2, "is_sized_enough": 2, "is_sized_trap": 3, "SizedHall": 2, "sized_trap": 3},
    "plans": {"is_plan": 1, "is_plan_trap": 3, "plan_cards": 2, "least_plan": 0, "plan_trap": 4, "plan_gaps": 1, "PlanHall": 2},
    "roots": {"root": 1, "root_hours": 2},
    "lots": {"least_lots": 2, "many_enough": 2, "least_size": 2, "cheapest_lot": 3},
    "floors": {"floor": 3, "is_floor": 5},
    "lines": {"line_web": 1, "ring_web": 1, "line_lots": 2, "ring_lots": 2, "line_least": 1, "ring_least": 1, "line_number": 2,
              "line_lot": 2},
    "texts": {"web_text": 1, "day_text": 1},
    "reading": {"read_web": 1, "read_day": 1},
    "desk": {"Desk": 0},
}
METHODS = {
    ("halls", "Hall"): {"now": 0, "come": 1, "tick": 0, "waiting": 0, "so_far": 0, "left": 0, "back": 0, "depth": 0, "copy": 0,
                        "trying": 1},
    ("sized", "SizedHall"): {"now": 0, "come": 1, "tick": 0, "waiting": 0, "so_far": 0, "left": 0},
    ("plans", "PlanHall"): {"now": 0, "come": 1, "tick": 0, "waiting": 0, "so_far": 0, "left": 0},
    ("desk", "Desk"): {"tell": 1, "undoable": 0},
    ("webs", "Web"): {"__eq__": 1}, ("days", "Day"): {"__eq__": 1}, ("sized", "SizedDay"): {"__eq__": 1},
}


def first_of(road, tick, waiting_ones, seen, past):
    return waiting_ones[:1]


class Examples(unittest.TestCase):

    def test_all_of_them(self):
        w, v = line_web(4), line_web(3)
        d = Day(v, (((0, 1, 2), 1), ((0,), 2)), ((1, 2, 3), (2,)))
        self.assertEqual(next_roads(w, 1), (2,))
        self.assertEqual(bad_places(w, (), "hours"), [("row", 0, 1, 2)])
        self.assertEqual(kinds(v, (), "hours"), ("first", "second", "end"))
        self.assertEqual(cards(d, (1,), "hours"), (((0, 1, 2), 1, 3, (None, 2, None)), ((0,), 2, 2, (None,))))
        self.assertEqual(cards(d, (0,), "turns")[1], ((0,), 2, 2, (1,)))
        self.assertIs(is_enough(w, "hours", (1,)), True)
        self.assertIsNone(missed(v, (), "hours", cards(d, (), "hours")))
        self.assertIs(is_trap(w, (), "hours", 0, 1, trap(w, (), "hours", ("row", 0, 1, 2), 0, 1)), True)
        self.assertEqual((line_lots(5, 10 ** 6), ring_lots(3, 100)), (26, 7))
        self.assertEqual((line_least(4), ring_least(7)), (1, 3))
        self.assertEqual(cheapest_lot(w, "hours", (5, 2, 3, 1)), (2, (1,)))
        self.assertEqual((least_lots(w, "hours"), least_lots(w, "turns")), ([(0,), (1,), (2,)], [(0,), (1,)]))
        self.assertEqual(root(w), 4)
        self.assertEqual(least_plan()[:4], ((0,), (1,), (0, 2), (1, 3)))
        self.assertIs(read_day(day_text(d)) == d, True)


class Interface(unittest.TestCase):

    def test_all_names_are_there_and_take_what_they_take(self):
        for file, names in FUNCTIONS.items():
            module = importlib.import_module("hourcards." + file)
            for name, many in names.items():
                with self.subTest(file, name=name):
                    thing = getattr(module, name)
                    self.assertEqual(thing.__module__, "hourcards." + file)
                    self.assertEqual(len(inspect.signature(thing).parameters), many)

    def test_methods_are_defined_in_their_classes(self):
        for (file, name), methods in METHODS.items():
            thing = getattr(importlib.import_module("hourcards." + file), name)
            self.assertEqual(thing.__bases__, (object,))
            for method, many in methods.items():
                with self.subTest(name, method=method):
                    self.assertIn(method, vars(thing))
                    self.assertEqual(len(inspect.signature(vars(thing)[method]).parameters), many + 1)


class Beyond(unittest.TestCase):
    """Webs that are returned are webs for every function, whatever their sizes."""

    def long_day(self, web):
        last = len(web.roads) - 8
        letters = (((last, last + 1, last + 2), 1), (tuple(range(last, last + 8)), 1), ((last,), 2), ((last + 1,), 2))
        return made_day(web, letters, (2, 1, 0, 3), {})

    def test_webs_ways_and_lots(self):
        web, ring = line_web(200), ring_web(200)
        self.assertEqual((next_roads(web, 198), next_roads(web, 199), next_roads(ring, 199)), ((199,), (), (0,)))
        self.assertIs(is_way(web, tuple(range(190, 198))), True)
        self.assertIs(is_way(ring, (198, 199, 0, 1)), True)
        self.assertIs(is_way(web, (199, 200)), False)
        self.assertIs(is_lot(web, tuple(range(200))), True)
        self.assertIs(is_lot(web, (200,)), False)

    def test_days_and_cards(self):
        for web in (line_web(200), ring_web(200)):
            day = self.long_day(web)
            self.assertEqual(Day(web, day.letters, day.hours), day)
            self.assertEqual(waiting(day, 1), [(192, 0), (192, 1)])
            self.assertEqual(laid_over(without(day, [0, 1]), shifted(day, 50)).web, web)
            for sort in SORTS:
                lot = cheapest_lot(web, sort, (1,) * 200)[1]
                found = cards(day, lot, sort)
                self.assertIs(are_cards(web, lot, sort, found), True)
                self.assertIs(alike(day, day, lot, sort, 5), True)
                self.assertIsNone(missed(web, lot, sort, found))
                self.assertEqual(late(found, played(web, lot, sort, found)), [])
                self.assertIs(is_enough(web, sort, lot), True)
                self.assertIs(is_kinds(web, lot, sort, kinds(web, lot, sort)), True)
                hall = Hall(web, lot, sort)
                for card in found:
                    if card[1] == 1:
                        hall.come(card)
                self.assertEqual(len(hall.tick()), 1)
            self.assertIs(savable(web, day.letters, (7,) * 4, tuple([(None,) * len(row) for row in day.hours]), 1, 0), False)
            self.assertIs(savable(web, day.letters, (8,) * 4, tuple([(None,) * len(row) for row in day.hours]), 1, 0), True)
            self.assertEqual(len(stranger_hours(web, cards(day, (), "hours"), 3, first_of)), 4)
            self.assertEqual(len(bad_places(web, (), "hours")), 197 if web == line_web(200) else 200)

    def test_traps(self):
        for web in (line_web(60), ring_web(60)):
            for sort in SORTS:
                place = ("row", 40, 41, 42)
                found = trap(web, (1, 2), sort, place, 2, 1)
                self.assertIs(is_trap(web, (1, 2), sort, 2, 1, found), True)
                self.assertTrue(is_tried_trap(*found, 1))
                day, hours, letter = beaten(web, (1, 2), sort, place, 2, 1, first_of)
                self.assertIn(day, found[:2])
                self.assertIn(hours[letter][-1], [None] + list(range(day.hours[letter][-1] + 1, 99)))

    def test_two_sizes(self):
        web = line_web(200)
        day = SizedDay(web, (((190, 191), 1, 2), ((190,), 2, 1)), ((1, 3), (3,)))
        lot = tuple(range(199))
        self.assertIs(is_sized_enough(web, lot), True)
        self.assertIs(is_sized_enough(web, lot[:-1]), False)
        hall = SizedHall(web, lot)
        hall.come(sized_cards(day, lot)[0])
        self.assertEqual(hall.tick(), [(190, 0)])
        self.assertIs(is_sized_trap(web, (), sized_trap(web, (), 198)), True)

    def test_plans_and_roots(self):
        web = line_web(200)
        day = self.long_day(web)
        hall = PlanHall(web, least_plan())
        for card in plan_cards(day, least_plan())[:2]:
            hall.come(card)
        self.assertEqual((len(hall.tick()), hall.left()), (1, 2))
        self.assertEqual((root(web), root(ring_web(200))), (200, None))
        ends = Day(web, (((198, 199), 1), ((199,), 2), ((197, 198, 199), 1)), ((1, 3), (2,), (1, 2, 4)))
        self.assertEqual(root_hours(web, cards(ends, (), "hours")), ends.hours)
        thing = (web, day, day, 1)
        self.assertIs(is_plan_trap(LAST, 0, thing), False)

    def test_lots_and_floors(self):
        for web, least in ((line_web(200), line_least(200)), (ring_web(200), ring_least(200)), (ring_web(199), ring_least(199)),
                           (line_web(25), 8), (ring_web(25), 9)):
            many = len(web.roads)
            self.assertEqual(least_size(web, "hours"), least)
            if many > 100:
                for sort in SORTS:
                    with self.assertRaises(TooMany):
                        least_lots(web, sort)
            for sort in SORTS:
                prices = (7,) * many
                price, lot = cheapest_lot(web, sort, prices)
                self.assertEqual(price, 7 * least_size(web, sort))
                self.assertIs(is_enough(web, sort, lot), True)
                tree = floor(web, sort, prices)
                self.assertIs(is_floor(web, sort, prices, price, tree), True)
                self.assertIs(is_floor(web, sort, prices, price + 1, tree), False)
        rng = random.Random(151)
        for web in (line_web(40), ring_web(40)):
            for sort in SORTS:
                prices = tuple([rng.randint(0, 99) for _ in range(40)])
                tree = floor(web, sort, prices)
                self.assertIs(is_floor(web, sort, prices, cheapest_lot(web, sort, prices)[0], tree), True)
        # For turns it is two in a row of all roads but the last two that may not both be silent.
        counts = [1, 2]
        while len(counts) < 199:
            counts.append(counts[-1] + counts[-2])
        self.assertEqual(many_enough(line_web(200), "turns"), 4 * counts[198])

    def test_a_floor_as_deep_as_a_long_line(self):
        # Each road is split, one within the other.
        web = line_web(200)
        for side in (0, 1):
            tree = ("apart", ())
            for road in range(200):
                tree = ("split", road) + ((("apart", ()), tree) if side else (tree, ("apart", ())))
            self.assertIs(is_floor(web, "hours", (1,) * 200, 0, tree), True)
            self.assertIs(is_floor(web, "hours", (1,) * 200, 0, ("split", 5, tree, tree)), False)

    def test_texts(self):
        self.assertEqual(web_text(ring_web(200)).count("\n"), 201)
        self.assertEqual(day_text(self.long_day(line_web(200))).count("\n"), 205)
        self.assertEqual(line_number(200, line_lot(200, 10 ** 50)), 10 ** 50)


class Everywhere(unittest.TestCase):

    def test_every_list_and_dict_is_new(self):
        w = line_web(4)
        day = read_day(day_text(Day(w, (((0, 1, 2), 1), ((0,), 1)), ((1, 2, 3), (2,)))))
        hall, plan_hall = Hall(w, (1,), "hours"), PlanHall(w, LAST[:2] + least_plan()[2:])
        hall.come(cards(day, (1,), "hours")[0])
        plan_hall.come(plan_cards(day, least_plan())[1])
        for call in (lambda: bad_places(w, (), "hours"), lambda: waiting(day, 1), lambda: least_lots(w, "turns"), hall.waiting,
                     plan_hall.waiting, lambda: plan_gaps(LAST), lambda: late(cards(day, (), "hours"), ((9, 9, 9), (9,))),
                     lambda: missed(w, (1,), "hours", (((0,), 1, 1, (None,)),) * 2)):
            found = call()
            self.assertIsInstance(found, list)
            before = copy.deepcopy(found)
            found.append("x")
            found.reverse()
            self.assertEqual(call(), before)

    def test_no_argument_is_changed(self):
        numbers, holds = [0, 1, 0], {(0, 0): 5}
        w = line_web(4)
        before = web_text(w)
        day = made_day(w, (((0, 1, 2), 1), ((0,), 1)), (1, 0), holds)
        text = day_text(day)
        without(day, numbers)
        trap(w, (), "hours", ("row", 0, 1, 2), 1, 1)
        floor(w, "turns", (1, 2, 3, 4))
        Desk().tell("day a " + text.replace("\n", "|"))
        self.assertEqual((numbers, holds), ([0, 1, 0], {(0, 0): 5}))
        self.assertEqual((web_text(w), day_text(day)), (before, text))

    def test_objects_are_equal_to_nothing_of_another_class_or_kind(self):
        w = line_web(3)
        things = [w, Day(w, (), ()), SizedDay(w, (), ()), Hall(w, (), "hours"), SizedHall(w, (0, 1)), PlanHall(w, least_plan()), Desk()]
        for one in things:
            for other in things + ODD:
                if other is not one and type(other) is not type(one):
                    with self.subTest(name_of(one), other=name_of(other)):
                        self.assertIs(one == other, False)
                        self.assertIs(one != other, True)

    def test_all_errors_derive_from_one(self):
        for call in (lambda: Web(1, (), (), ()), lambda: Desk().tell(None), lambda: line_web(0), lambda: read_web(None),
                     lambda: plan_trap(None, 0, 0, 0), lambda: root_hours(ring_web(3), ())):
            with self.assertRaises(HourError):
                call()


if __name__ == "__main__":
    unittest.main()
