"""Point 19: ranges of speeds and of speeds less other ones, sure orders, and ratios with a wished speed."""

import random
import unittest
from fractions import Fraction

from planetlocks.boxes import Box, is_fraction
from planetlocks.errors import (
    InvalidFraction, InvalidLocks, InvalidRatios, InvalidShaft, NotDriven, Unbalanced,
)
from planetlocks.motions import speeds_of
from planetlocks.ranges import compared, ratios_for, same_speeds, slip_range, speed_range, sure_order
from planetlocks.trees import driven
from tests import oracle
from tests.gears import driven_gears, random_told
from tests.judging import JudgingTest

SET_OF = Box(3, [("planet", 1, 2, 3)])
DOUBLE = Box(3, [("double", 1, 2, 3)])


def speeds_at(box, told, locks, inlet):
    return [Fraction(*speed) for speed in speeds_of(box, told, locks, inlet)]


class RangeTest(JudgingTest):
    def test_example(self):
        self.assertEqual(speed_range(SET_OF, [None], [(3, 0)], 1, 2), ((0, 1), (1, 1)))
        self.assertEqual(speed_range(SET_OF, [None], [(2, 0)], 1, 3), (None, (0, 1)))
        self.assertEqual(speed_range(SET_OF, [None], [(3, 2)], 1, 3), ((1, 1), (1, 1)))
        self.assertEqual(slip_range(SET_OF, [(5, 2)], [(3, 0)], 1, 1, 2), ((5, 7), (5, 7)))
        self.assertEqual(compared(SET_OF, [None], [(2, 0)], 1, 3, 0), "slower")
        self.assertEqual(sure_order(SET_OF, [None], [(3, 0)], 1), [(1, 0), (1, 2), (1, 3), (2, 0), (2, 3)])

    def test_by_hand(self):
        # One end, no end, both ends, one number.
        self.assertEqual(speed_range(DOUBLE, [None], [(2, 0)], 1, 3), ((0, 1), None))
        self.assertEqual(speed_range(DOUBLE, [None], [(3, 0)], 2, 1), (None, (1, 1)))
        self.assertEqual(speed_range(SET_OF, [None], [(3, 0)], 2, 1), ((1, 1), None))
        self.assertEqual(speed_range(SET_OF, [(5, 2)], [(3, 0)], 2, 1), ((7, 2), (7, 2)))
        chain = Box(3, [("pair", 1, 2), ("band", 2, 3)])
        self.assertEqual(speed_range(chain, [None, None], [], 1, 3), (None, (0, 1)))
        self.assertEqual(speed_range(chain, [(1, 2), (1, 3)], [], 1, 3), ((-6, 1), (-6, 1)))
        self.assertEqual(slip_range(chain, [None, None], [], 1, 2, 3), (None, None))
        self.assertEqual(slip_range(SET_OF, [None], [(3, 0)], 1, 2, 1), ((-1, 1), (0, 1)))

    def test_shaft_0_and_the_inlet(self):
        self.assertEqual(speed_range(SET_OF, [None], [(3, 0)], 1, 0), ((0, 1), (0, 1)))
        self.assertEqual(speed_range(SET_OF, [None], [(3, 0)], 1, 3), ((0, 1), (0, 1)))
        self.assertEqual(speed_range(SET_OF, [None], [(3, 0)], 2, 2), ((1, 1), (1, 1)))
        self.assertEqual(slip_range(SET_OF, [None], [(3, 0)], 1, 0, 2), ((-1, 1), (0, 1)))
        self.assertEqual(slip_range(SET_OF, [None], [(3, 0)], 1, 2, 0), ((0, 1), (1, 1)))
        for shaft in range(4):
            self.assertEqual(slip_range(SET_OF, [None], [(3, 0)], 1, shaft, shaft), ((0, 1), (0, 1)))
            self.assertEqual(compared(SET_OF, [None], [(3, 0)], 1, shaft, shaft), "same")
        self.assertEqual(compared(SET_OF, [None], [(3, 0)], 1, 0, 3), "same")
        self.assertEqual(speed_range(Box(1, []), [], [], 1, 1), ((1, 1), (1, 1)))

    def test_random_gears(self):
        chance = random.Random(1)
        kinds = set()
        for box, ratios, locks, inlet in driven_gears(1, 700):
            far = [speeds_at(box, told, locks, inlet) for told in oracle.corners(ratios)]
            some = [speeds_at(box, random_told(chance, ratios), locks, inlet) for _ in range(5)]
            shafts = range(box.shafts + 1)
            for shaft in shafts:
                with self.subTest(works=box.works, ratios=ratios, locks=locks, inlet=inlet, shaft=shaft):
                    found = speed_range(box, ratios, locks, inlet, shaft)
                    self.judge_range(found, [row[shaft] for row in some], [row[shaft] for row in far])
                    if ratios.count(None) == len(ratios):
                        self.assertTrue(all(end in ((-1, 1), (0, 1), (1, 1), None) for end in found))
                other = chance.choice(shafts)
                with self.subTest(works=box.works, ratios=ratios, locks=locks, inlet=inlet, shafts=(shaft, other)):
                    found = slip_range(box, ratios, locks, inlet, shaft, other)
                    self.judge_range(found, [row[shaft] - row[other] for row in some],
                               [row[shaft] - row[other] for row in far])
                    kinds.add((found[0] is None, found[1] is None, found[0] == found[1]))
        self.assertEqual(len(kinds), 5)

    def test_ends_that_are_no_integers(self):
        box = Box(4, [("planet", 1, 2, 3), ("planet", 2, 4, 3)])
        self.assertEqual(speed_range(box, [(5, 2), None], [(3, 0)], 1, 4), ((0, 1), (2, 7)))
        self.assertEqual(speed_range(box, [None, (1, 3)], [(3, 0)], 1, 4), ((0, 1), (3, 4)))
        self.assertEqual(slip_range(box, [(5, 2), None], [(3, 0)], 1, 1, 4), ((5, 7), (1, 1)))


class ComparedTest(unittest.TestCase):
    def test_by_hand(self):
        self.assertEqual(compared(SET_OF, [None], [(3, 0)], 1, 1, 2), "faster")
        self.assertEqual(compared(SET_OF, [None], [(3, 0)], 1, 2, 1), "slower")
        self.assertEqual(compared(SET_OF, [None], [(3, 0)], 2, 1, 2), "faster")
        self.assertEqual(compared(SET_OF, [None], [(3, 2)], 1, 1, 3), "same")
        self.assertEqual(compared(DOUBLE, [None], [(2, 0)], 1, 3, 1), "either")
        self.assertEqual(compared(DOUBLE, [(1, 2)], [(2, 0)], 1, 3, 1), "faster")
        self.assertEqual(compared(DOUBLE, [(1, 1)], [(2, 0)], 1, 3, 1), "same")
        self.assertEqual(compared(DOUBLE, [(2, 1)], [(2, 0)], 1, 3, 1), "slower")

    def test_like_the_ranges(self):
        """A range has no end within it: the word is told by where 0 is."""
        words = set()
        for box, ratios, locks, inlet in driven_gears(2, 400):
            shafts = range(box.shafts + 1)
            table = {}
            for shaft in shafts:
                for other in shafts:
                    low, high = slip_range(box, ratios, locks, inlet, shaft, other)
                    if low == high == (0, 1):
                        due = "same"
                    elif low is not None and low[0] >= 0:
                        due = "faster"
                    else:
                        due = "slower" if high is not None and high[0] <= 0 else "either"
                    table[shaft, other] = compared(box, ratios, locks, inlet, shaft, other)
                    self.assertEqual(table[shaft, other], due)
            words |= set(table.values())
            faster = [pair for pair in sorted(table) if table[pair] == "faster"]
            self.assertEqual(sure_order(box, ratios, locks, inlet), faster)
            groups = []
            for shaft in shafts:
                group = [other for other in shafts if table[shaft, other] == "same"]
                if group not in groups:
                    groups.append(group)
            self.assertEqual(same_speeds(box, ratios, locks, inlet), groups)
        self.assertEqual(words, {"faster", "same", "slower", "either"})

    def test_same_speeds_by_hand(self):
        self.assertEqual(same_speeds(SET_OF, [None], [(3, 0)], 1), [[0, 3], [1], [2]])
        self.assertEqual(same_speeds(SET_OF, [None], [(2, 1)], 1), [[0], [1, 2, 3]])
        self.assertEqual(same_speeds(Box(1, []), [], [], 1), [[0], [1]])
        self.assertEqual(same_speeds(DOUBLE, [(1, 1)], [(2, 0)], 1), [[0, 2], [1, 3]])
        self.assertEqual(same_speeds(DOUBLE, [None], [(2, 0)], 1), [[0, 2], [1], [3]])
        self.assertEqual(sure_order(Box(1, []), [], [], 1), [(1, 0)])


class RatiosForTest(unittest.TestCase):
    def wished(self, found):
        """Speeds within a range, at its ends and beyond."""
        speeds = [Fraction(k, 6) for k in range(-15, 16)]
        for end in found:
            if end is not None:
                speeds += [Fraction(*end), Fraction(*end) + Fraction(1, 1000), Fraction(*end) - Fraction(1, 1000)]
        return speeds

    def test_random_gears(self):
        seen = set()
        for box, ratios, locks, inlet in driven_gears(3, 250):
            for shaft in range(box.shafts + 1):
                found = speed_range(box, ratios, locks, inlet, shaft)
                for speed in self.wished(found):
                    pair = (speed.numerator, speed.denominator)
                    told = ratios_for(box, ratios, locks, inlet, shaft, pair)
                    with self.subTest(works=box.works, ratios=ratios, locks=locks, inlet=inlet, speed=speed):
                        self.assertEqual(told is not None, oracle.is_within(found, speed))
                        if told is not None:
                            self.assertEqual(speeds_of(box, told, locks, inlet)[shaft], pair)
                            self.assertTrue(all(is_fraction(ratio) and ratio[0] > 0 for ratio in told))
                            self.assertEqual(told, [b if a is None else a for a, b in zip(ratios, told)])
                    seen.add(told is None)
        self.assertEqual(seen, {True, False})

    def test_by_hand(self):
        self.assertEqual(ratios_for(SET_OF, [None], [(3, 0)], 1, 2, (2, 7)), [(5, 2)])
        self.assertIsNone(ratios_for(SET_OF, [None], [(3, 0)], 1, 2, (1, 1)))
        self.assertIsNone(ratios_for(SET_OF, [None], [(3, 0)], 1, 2, (0, 1)))
        self.assertEqual(ratios_for(SET_OF, [None], [(2, 0)], 1, 3, (-2, 5)), [(5, 2)])
        self.assertEqual(ratios_for(SET_OF, [(5, 2)], [(3, 0)], 1, 2, (2, 7)), [(5, 2)])
        self.assertIsNone(ratios_for(SET_OF, [(5, 2)], [(3, 0)], 1, 2, (2, 9)))
        self.assertEqual(ratios_for(Box(1, []), [], [], 1, 1, (1, 1)), [])
        self.assertIsNone(ratios_for(Box(1, []), [], [], 1, 1, (2, 1)))
        # Each ratio will do.
        told = ratios_for(SET_OF, [None], [(3, 0)], 1, 0, (0, 1))
        self.assertEqual(len(told), 1)
        self.assertTrue(is_fraction(told[0]) and told[0][0] > 0)
        self.assertIsNone(ratios_for(SET_OF, [None], [(3, 0)], 1, 0, (1, 1)))

    def test_wrong_speeds(self):
        for speed in ((2, 4), (1, 0), (1, -1), (True, 1), 1, None, "1/2", [1, 2], (1,), (1, 2, 3), (0, 2)):
            with self.subTest(speed=speed), self.assertRaises(InvalidFraction):
                ratios_for(SET_OF, [None], [(3, 0)], 1, 2, speed)

    def test_great_numbers(self):
        speed = (10 ** 12 - 1, 10 ** 12)
        told = ratios_for(SET_OF, [None], [(3, 0)], 1, 2, speed)
        self.assertEqual(speeds_of(SET_OF, told, [(3, 0)], 1)[2], speed)


class ErrorsTest(unittest.TestCase):
    def calls(self, box, ratios, locks, inlet):
        return [
            lambda: speed_range(box, ratios, locks, inlet, 1),
            lambda: speed_range(box, ratios, locks, inlet, 0),
            lambda: slip_range(box, ratios, locks, inlet, 1, 1),
            lambda: slip_range(box, ratios, locks, inlet, 0, 0),
            lambda: compared(box, ratios, locks, inlet, 1, 1),
            lambda: ratios_for(box, ratios, locks, inlet, 0, (0, 1)),
            lambda: sure_order(box, ratios, locks, inlet),
            lambda: same_speeds(box, ratios, locks, inlet),
        ]

    def test_unbalanced(self):
        for locks in ([], [(2, 1), (3, 0)], [(1, 0), (2, 0), (3, 0)]):
            for at, call in enumerate(self.calls(SET_OF, [None], locks, 1)):
                with self.subTest(locks=locks, at=at), self.assertRaises(Unbalanced):
                    call()

    def test_not_driven(self):
        gears = [
            (SET_OF, [None], [(1, 0)], 1), (SET_OF, [(5, 2)], [(1, 0)], 1), (DOUBLE, [None], [(3, 0)], 1),
            (DOUBLE, [(1, 1)], [(3, 0)], 1), (Box(2, []), [], [(1, 0)], 1),
        ]
        for gear in gears:
            for at, call in enumerate(self.calls(*gear)):
                with self.subTest(gear=gear[1:], at=at), self.assertRaises(NotDriven):
                    call()
        for call in self.calls(DOUBLE, [(1, 2)], [(3, 0)], 1) + self.calls(DOUBLE, [None], [(3, 0)], 2):
            call()

    def test_parameters_come_first(self):
        with self.assertRaises(InvalidShaft):
            speed_range(SET_OF, [None], [], 1, 4)
        with self.assertRaises(InvalidShaft):
            slip_range(SET_OF, [None], [], 1, 1, -1)
        with self.assertRaises(InvalidShaft):
            compared(SET_OF, [None], [(1, 0)], 1, 1, True)
        with self.assertRaises(InvalidFraction):
            ratios_for(SET_OF, [None], [(1, 0)], 1, 1, (2, 2))
        with self.assertRaises(InvalidShaft):
            sure_order(SET_OF, [None], [], 0)
        with self.assertRaises(InvalidLocks):
            same_speeds(SET_OF, [None], [(0, 1)], 0)
        with self.assertRaises(InvalidRatios):
            speed_range(SET_OF, [None, None], [(0, 1)], 0, 9)


class GreatestTest(unittest.TestCase):
    def test_greatest_box(self):
        box = Box(8, [("planet", 1, 2, 3), ("planet", 1, 3, 4), ("planet", 2, 4, 5), ("planet", 1, 5, 6),
                      ("planet", 3, 6, 7), ("band", 7, 8)])
        for ratios in ([None] * 6, [(10 ** 12 - 1, 10 ** 12)] * 6):
            for locks in ([(5, 0)], [(7, 0)], [(2, 1)]):
                self.assertEqual(driven(box, ratios, locks, 1), "all")
                order = sure_order(box, ratios, locks, 1)
                self.assertEqual(order, sorted(order))
                self.assertEqual(sorted(sum(same_speeds(box, ratios, locks, 1), [])), list(range(9)))
                for shaft in range(9):
                    self.assertEqual(speed_range(box, ratios, locks, 1, shaft),
                                     slip_range(box, ratios, locks, 1, shaft, 0))
                    if None not in ratios:
                        speed = speeds_of(box, ratios, locks, 1)[shaft]
                        self.assertEqual(speed_range(box, ratios, locks, 1, shaft), (speed, speed))
