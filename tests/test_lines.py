"""Lines and rings (12)."""

import itertools
import random
import unittest

from hourcards import lines as module
from hourcards.errors import NoLot, NoNumber
from hourcards.kinds import is_enough
from hourcards.lines import line_least, line_lot, line_lots, line_number, line_web, ring_least, ring_lots, ring_web
from hourcards.lots import least_size, many_enough
from hourcards.webs import Web
from tests.samples import FOUR, LINE, ODD, RING, name_of, nested
from tests.test_cards import NO_LOTS
from tests.test_lots import enough_lots

GREATEST = 10 ** 30


def line_counts(most):
    """For 0 to so many roads of which no three in a row are silent: the last told one is the last or one of two ahead."""
    counts = [1, 2, 4]
    while len(counts) <= most:
        counts.append(sum(counts[-3:]))
    return counts


def ring_counts(most):
    """For 0 to so many roads in a ring: the same recurrence with other begins."""
    counts = [3, 1, 3]
    while len(counts) <= most:
        counts.append(sum(counts[-3:]))
    return counts


def power_of(power, modulus):
    """x to this power, divided by x * x * x - x * x - x - 1: the three numbers of the rest, the constant first."""
    def product(one, other):
        found = [0] * 5
        for (at, left), (to, right) in itertools.product(enumerate(one), enumerate(other)):
            found[at + to] += left * right
        for top in (4, 3):
            for back in (1, 2, 3):
                found[top - back] += found[top]
        return [number % modulus for number in found[:3]]
    rest = [1, 0, 0]
    for bit in bin(power)[2:]:
        rest = product(rest, rest)
        if bit == "1":
            rest = product(rest, [0, 1, 0])
    return rest


def far(counts, at, modulus):
    """The number at a far place of a list in which each number is the sum of the three ahead of it."""
    return sum([number * rest for number, rest in zip(counts, power_of(at, modulus))]) % modulus


class Webs(unittest.TestCase):

    def test_by_hand(self):
        self.assertEqual(line_web(4), FOUR)
        self.assertEqual(line_web(3), LINE)
        self.assertEqual(line_web(1), Web(2, ((0, 1),), (1,), (1,)))
        self.assertEqual(ring_web(3), RING)
        self.assertEqual(ring_web(2), Web(2, ((0, 1), (1, 0)), (1, 1), (1, 1)))
        self.assertEqual(ring_web(12).roads[10:], ((10, 11), (11, 0)))

    def test_beyond_the_bounds(self):
        for many in (12, 13, 25, 200):
            web = line_web(many)
            self.assertIsInstance(web, Web)
            self.assertEqual((web.houses, web.rooms, web.times), (many + 1, (1,) * many, (1,) * many))
            self.assertEqual(web.roads, tuple([(k, k + 1) for k in range(many)]))
            web = ring_web(many)
            self.assertIsInstance(web, Web)
            self.assertEqual((web.houses, web.rooms, web.times), (many, (1,) * many, (1,) * many))
            self.assertEqual(web.roads, tuple([(k, (k + 1) % many) for k in range(many)]))
        self.assertEqual(line_web(200), line_web(200))
        self.assertFalse(line_web(200) == line_web(199))
        self.assertFalse(line_web(200) == ring_web(200))

    def test_no_number(self):
        for thing in ODD + [0, -1, 201, 10 ** 39, "3", (3,), [3], b"\x03", LINE, nested(list, 40)]:
            with self.subTest(name_of(thing)):
                with self.assertRaises(NoNumber):
                    line_web(thing)
                with self.assertRaises(NoNumber):
                    ring_web(thing)
        with self.assertRaises(NoNumber):
            ring_web(1)

    def test_everything_is_defined_where_the_interface_lists_it(self):
        for name in ("line_web", "ring_web", "line_lots", "ring_lots", "line_least", "ring_least", "line_lot", "line_number"):
            self.assertEqual(getattr(module, name).__module__, "hourcards.lines")


class Counts(unittest.TestCase):

    def test_the_examples(self):
        self.assertEqual((line_lots(5, 10 ** 6), ring_lots(3, 100)), (26, 7))
        self.assertEqual((line_least(4), ring_least(7)), (1, 3))

    def test_by_hand(self):
        # Up to three roads each lot is enough: a line of three has no row whose last road leads on.
        self.assertEqual([line_lots(n, 1000) for n in range(1, 8)], [2, 4, 8, 14, 26, 48, 88])
        self.assertEqual([ring_lots(n, 1000) for n in range(2, 8)], [3, 7, 11, 21, 39, 71])
        self.assertEqual([line_least(n) for n in range(1, 11)], [0, 0, 0, 1, 1, 1, 2, 2, 2, 3])
        self.assertEqual([ring_least(n) for n in range(2, 11)], [1, 1, 2, 2, 2, 3, 3, 3, 4])

    def test_against_a_look_at_all_lots(self):
        for n in range(1, 11):
            lots = enough_lots(line_web(n), "hours")
            self.assertEqual(line_lots(n, GREATEST), len(lots))
            self.assertEqual(line_least(n), min([len(lot) for lot in lots]))
            if n > 1:
                lots = enough_lots(ring_web(n), "hours")
                self.assertEqual(ring_lots(n, GREATEST), len(lots))
                self.assertEqual(ring_least(n), min([len(lot) for lot in lots]))

    def test_against_the_lots_functions(self):
        for n in list(range(1, 11)) + [24, 60, 200]:
            web = line_web(n)
            self.assertEqual(line_lots(n, GREATEST), many_enough(web, "hours") % GREATEST)
            self.assertEqual(line_least(n), least_size(web, "hours"))
            if n > 1:
                web = ring_web(n)
                self.assertEqual(ring_lots(n, GREATEST), many_enough(web, "hours") % GREATEST)
                self.assertEqual(ring_least(n), least_size(web, "hours"))

    def test_against_a_recurrence(self):
        lines, rings = line_counts(1500), ring_counts(1500)
        rng = random.Random(121)
        for n in list(range(2, 60)) + [rng.randint(60, 1500) for _ in range(60)]:
            for modulus in (1, 2, 7, GREATEST, rng.randint(1, GREATEST)):
                self.assertEqual(line_lots(n, modulus), 2 * lines[n - 1] % modulus)
                self.assertEqual(ring_lots(n, modulus), rings[n] % modulus)

    def test_the_greatest_numbers(self):
        rng = random.Random(122)
        for n in [GREATEST, GREATEST - 1] + [rng.randint(10 ** 29, GREATEST) for _ in range(10)]:
            for modulus in (GREATEST, GREATEST - 1, 10 ** 9 + 7, 2, 1, rng.randint(10 ** 29, GREATEST)):
                self.assertEqual(line_lots(n, modulus), 2 * far([1, 2, 4], n - 1, modulus) % modulus)
                self.assertEqual(ring_lots(n, modulus), far([3, 1, 3], n, modulus))
            self.assertEqual(line_least(n), (n - 1) // 3)
            self.assertEqual(ring_least(n), -(-n // 3))
        self.assertEqual(line_least(GREATEST), int("3" * 30))
        self.assertEqual(ring_least(GREATEST), int("3" * 29 + "4"))

    def test_modulus_one(self):
        for n in (1, 2, 3, 4, 200, GREATEST):
            self.assertEqual(line_lots(n, 1), 0)
            if n > 1:
                self.assertEqual(ring_lots(n, 1), 0)
        self.assertEqual(line_lots(1, 2), 0)

    def test_no_number(self):
        for thing in ODD + [0, -1, GREATEST + 1, 10 ** 39, "3", (3,), [3], b"\x03", LINE]:
            with self.subTest(name_of(thing)):
                for call in (line_least, ring_least, lambda n: line_lots(n, 5), lambda n: ring_lots(n, 5),
                             lambda n: line_lots(n, None), lambda n: ring_lots(n, 0), lambda n: line_lots(5, n),
                             lambda n: ring_lots(5, n)):
                    with self.assertRaises(NoNumber):
                        call(thing)
        for call in (lambda: ring_least(1), lambda: ring_lots(1, 5)):
            with self.assertRaises(NoNumber):
                call()


class Numbers(unittest.TestCase):

    def test_by_hand(self):
        # Silent roads are less: the lots of a line of four are all but that of no road and that of just the last one.
        self.assertEqual([line_lot(4, number) for number in range(14)],
                         [(2,), (2, 3), (1,), (1, 3), (1, 2), (1, 2, 3), (0,), (0, 3), (0, 2), (0, 2, 3), (0, 1), (0, 1, 3),
                          (0, 1, 2), (0, 1, 2, 3)])
        self.assertEqual([line_lot(1, number) for number in range(2)], [(), (0,)])
        self.assertEqual([line_lot(2, number) for number in range(4)], [(), (1,), (0,), (0, 1)])
        self.assertEqual(line_number(4, (1, 2)), 4)

    def test_there_and_back(self):
        for n in range(1, 11):
            lots = sorted(enough_lots(line_web(n), "hours"), key=lambda lot: [road in lot for road in range(n)])
            self.assertEqual([line_lot(n, number) for number in range(len(lots))], lots)
            self.assertEqual([line_number(n, lot) for lot in lots], list(range(len(lots))))
            with self.assertRaises(NoNumber):
                line_lot(n, len(lots))
            with self.assertRaises(NoNumber):
                line_lot(n, -1)

    def test_the_greatest_lines(self):
        many = 2 * line_counts(199)[199]
        self.assertGreater(many, 10 ** 52)
        rng = random.Random(123)
        for number in [0, 1, many - 1, many - 2, 10 ** 52] + [rng.randrange(10 ** 40, many) for _ in range(40)]:
            lot = line_lot(200, number)
            self.assertTrue(is_enough(line_web(200), "hours", lot))
            self.assertEqual(line_number(200, lot), number)
        self.assertEqual(line_lot(200, many - 1), tuple(range(200)))
        self.assertEqual(line_lot(200, 0), tuple(range(2, 199, 3)))
        for number in (many, 10 ** 60 - 1):
            with self.assertRaises(NoNumber):
                line_lot(200, number)

    def test_they_ascend(self):
        rng = random.Random(124)
        for _ in range(60):
            n = rng.randint(1, 200)
            number = rng.randrange(2 * line_counts(n - 1)[n - 1] - 1)
            one, other = line_lot(n, number), line_lot(n, number + 1)
            self.assertLess([road in one for road in range(n)], [road in other for road in range(n)])

    def test_no_number(self):
        for thing in ODD + [0, -1, 201, 10 ** 39, "3", (3,), [3], b"\x03", LINE]:
            with self.subTest(name_of(thing)):
                with self.assertRaises(NoNumber):
                    line_lot(thing, 0)
                with self.assertRaises(NoNumber):
                    line_lot(thing, None)
                with self.assertRaises(NoNumber):
                    line_number(thing, ())
                with self.assertRaises(NoNumber):
                    line_number(thing, None)
        for thing in ODD + [-1, 14, 10 ** 59, "3", (3,), [3], b"\x03", LINE]:
            with self.subTest(name_of(thing)), self.assertRaises(NoNumber):
                line_lot(4, thing)

    def test_no_lot(self):
        self.assertEqual(line_number(3, ()), 0)
        for thing in ODD + NO_LOTS + [[2], (2, 1), (True, 2), (1, 1)]:
            if thing != ():
                with self.subTest(name_of(thing)), self.assertRaises(NoLot):
                    line_number(3, thing)
        # Lots of the line that are not enough.
        for lot in ((), (3,)):
            with self.assertRaises(NoLot):
                line_number(4, lot)
        with self.assertRaises(NoLot):
            line_number(200, tuple(range(3, 200)))
        with self.assertRaises(NoLot):
            line_number(200, tuple(range(201)))


if __name__ == "__main__":
    unittest.main()
