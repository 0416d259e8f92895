"""Point 16: motions, with points 3 and 4."""

import random
import unittest
from fractions import Fraction
from math import gcd

from planetlocks.boxes import Box, is_fraction
from planetlocks.motions import alike, freedom, holds, motions, speeds_of, still
from tests import oracle

SET_OF = Box(3, [("planet", 1, 2, 3)])
TOLD = [(5, 2)]


def chance_boxes(seed, count, shafts_most, works_most, locks_most):
    chance = random.Random(seed)
    cases = []
    for _ in range(count):
        shafts = chance.randint(2, shafts_most)
        works = []
        for _ in range(chance.randint(0, works_most)):
            if chance.random() < 0.6:
                works.append((chance.choice(("planet", "double")), *chance.sample(range(shafts + 1), 3)))
            else:
                works.append((chance.choice(("pair", "band")), *chance.sample(range(1, shafts + 1), 2)))
        told = [lowest(chance.randint(1, 3), chance.randint(1, 3)) for _ in works]
        pairs = [(a, b) for a in range(1, shafts + 1) for b in range(a)]
        locks = sorted(chance.sample(pairs, min(len(pairs), chance.randint(0, locks_most))))
        cases.append((Box(shafts, works), told, locks))
    return cases


def lowest(top, bottom):
    common = gcd(top, bottom)
    return (top // common, bottom // common)


class PlanetTest(unittest.TestCase):
    def test_one_set_by_hand(self):
        self.assertEqual(freedom(SET_OF, TOLD, []), 2)
        self.assertEqual(motions(SET_OF, TOLD, []), [
            [(0, 1), (1, 1), (0, 1), (-2, 5)], [(0, 1), (0, 1), (1, 1), (7, 5)],
        ])
        self.assertEqual(speeds_of(SET_OF, TOLD, [(3, 0)], 1), [(0, 1), (1, 1), (2, 7), (0, 1)])
        self.assertEqual(speeds_of(SET_OF, TOLD, [(3, 0)], 2), [(0, 1), (7, 2), (1, 1), (0, 1)])
        self.assertIsNone(speeds_of(SET_OF, TOLD, [(3, 0)], 3))
        self.assertIsNone(speeds_of(SET_OF, TOLD, [], 1))
        self.assertEqual(speeds_of(SET_OF, TOLD, [(3, 2)], 1), [(0, 1), (1, 1), (1, 1), (1, 1)])
        self.assertIsNone(speeds_of(SET_OF, TOLD, [(2, 1), (3, 0)], 1))

    def test_each_kind_of_work(self):
        self.assertEqual(motions(Box(2, [("pair", 1, 2)]), [(3, 2)], []), [[(0, 1), (1, 1), (-2, 3)]])
        self.assertEqual(motions(Box(2, [("band", 1, 2)]), [(3, 2)], []), [[(0, 1), (1, 1), (2, 3)]])
        self.assertEqual(motions(Box(2, [("planet", 1, 0, 2)]), [(3, 2)], []), [[(0, 1), (1, 1), (-2, 3)]])
        self.assertEqual(motions(Box(2, [("planet", 1, 2, 0)]), [(3, 2)], []), [[(0, 1), (1, 1), (2, 5)]])
        self.assertEqual(motions(Box(2, [("double", 1, 2, 0)]), [(3, 1)], []), [[(0, 1), (1, 1), (-1, 2)]])
        self.assertEqual(motions(Box(2, [("planet", 0, 1, 2)]), [(3, 2)], []), [[(0, 1), (1, 1), (5, 3)]])

    def test_a_double_set_of_ratio_1_loses_its_carrier(self):
        box = Box(3, [("double", 1, 2, 3)])
        self.assertEqual(motions(box, [(1, 1)], []), [[(0, 1), (1, 1), (0, 1), (1, 1)], [(0, 1), (0, 1), (1, 1), (0, 1)]])
        self.assertEqual(alike(box, [(1, 1)], []), [[0], [1, 3], [2]])
        self.assertEqual(freedom(box, [(1, 1)], [(3, 1)]), 2)

    def test_holds(self):
        self.assertIs(holds(SET_OF, TOLD, [(3, 0)], [(0, 1), (1, 1), (2, 7), (0, 1)]), True)
        self.assertIs(holds(SET_OF, TOLD, [(3, 0)], [(0, 1), (1, 1), (2, 7), (1, 1)]), False)
        self.assertIs(holds(SET_OF, TOLD, [], [(0, 1), (1, 1), (1, 1), (1, 1)]), True)
        self.assertIs(holds(SET_OF, TOLD, [(2, 1)], [(0, 1), (1, 1), (1, 1), (1, 1)]), True)
        self.assertIs(holds(SET_OF, TOLD, [(2, 1)], [(0, 1), (1, 1), (0, 1), (-2, 5)]), False)
        self.assertIs(holds(SET_OF, TOLD, [], [(0, 1), (1, 1), (0, 1), (-1, 5)]), False)
        self.assertIs(holds(SET_OF, TOLD, [(1, 0), (2, 0), (2, 1), (3, 0)], [(0, 1)] * 4), True)
        self.assertIs(holds(Box(1, []), [], [], [(0, 1), (-9, 4)]), True)
        self.assertIs(holds(Box(1, []), [], [(1, 0)], [(0, 1), (-9, 4)]), False)


class EdgesTest(unittest.TestCase):
    def test_no_works_no_locks(self):
        box = Box(3, [])
        self.assertEqual(freedom(box, [], []), 3)
        self.assertEqual(motions(box, [], [])[1], [(0, 1), (0, 1), (1, 1), (0, 1)])
        self.assertEqual(still(box, [], []), [0])
        self.assertEqual(alike(box, [], []), [[0], [1], [2], [3]])
        self.assertIsNone(speeds_of(box, [], [], 1))

    def test_one_shaft_alone(self):
        box = Box(1, [])
        self.assertEqual(speeds_of(box, [], [], 1), [(0, 1), (1, 1)])
        self.assertEqual(motions(box, [], []), [[(0, 1), (1, 1)]])
        self.assertEqual(freedom(box, [], [(1, 0)]), 0)
        self.assertIsNone(speeds_of(box, [], [(1, 0)], 1))

    def test_freedom_0(self):
        locks = [(1, 0), (2, 1), (3, 2)]
        self.assertEqual(freedom(SET_OF, TOLD, locks), 0)
        self.assertEqual(motions(SET_OF, TOLD, locks), [])
        self.assertEqual(still(SET_OF, TOLD, locks), [0, 1, 2, 3])
        self.assertEqual(alike(SET_OF, TOLD, locks), [[0, 1, 2, 3]])
        self.assertIsNone(speeds_of(SET_OF, TOLD, locks, 1))

    def test_still_and_alike(self):
        box = Box(5, [("planet", 1, 2, 3)])
        self.assertEqual(still(box, TOLD, [(2, 0), (5, 2)]), [0, 2, 5])
        self.assertEqual(alike(box, TOLD, [(2, 0), (4, 1), (5, 2)]), [[0, 2, 5], [1, 4], [3]])
        self.assertEqual(alike(box, TOLD, [(2, 1)]), [[0], [1, 2, 3], [4], [5]])
        self.assertEqual(alike(box, TOLD, [(4, 2), (5, 1)]), [[0], [1, 5], [2, 4], [3]])

    def test_redundant_locks_do_not_lessen_the_freedom(self):
        box = Box(3, [])
        self.assertEqual(freedom(box, [], [(2, 1), (3, 1), (3, 2)]), 1)
        self.assertEqual(speeds_of(box, [], [(2, 1), (3, 1), (3, 2)], 3), [(0, 1), (1, 1), (1, 1), (1, 1)])

    def test_many_free_shafts_are_only_counted(self):
        box = Box(10 ** 39, [("pair", 1, 10 ** 39)])
        self.assertEqual(freedom(box, [(1, 1)], [(7, 0)]), 10 ** 39 - 2)
        self.assertIsNone(speeds_of(box, [(1, 1)], [(7, 0)], 1))


class AgainstTheWordsTest(unittest.TestCase):
    def test_chance_boxes(self):
        for box, told, locks in chance_boxes(16, 300, 5, 3, 4):
            with self.subTest(box=(box.shafts, box.works), told=told, locks=locks):
                self.look_at(box, told, locks)

    def look_at(self, box, told, locks):
        n = box.shafts
        rows = oracle.relations(n, box.works, told, locks)
        units = [[int(k == shaft) for k in range(n + 1)] for shaft in range(n + 1)]
        free = [k for k in range(1, n + 1) if not oracle.tells(rows + units[:k], units[k])]
        found = motions(box, told, locks)
        self.assertEqual(freedom(box, told, locks), n + 1 - oracle.rank(rows))
        self.assertEqual(len(found), len(free))
        for shaft, motion in zip(free, found):
            self.assertTrue(all(is_fraction(speed) for speed in motion))
            self.assertTrue(oracle.is_motion(n, box.works, told, locks, motion))
            self.assertIs(holds(box, told, locks, motion), True)
            self.assertEqual([motion[k] for k in free], [(int(k == shaft), 1) for k in free])
        standing = [k for k in range(n + 1) if oracle.tells(rows, units[k])]
        self.assertEqual(still(box, told, locks), standing)
        self.assertEqual(alike(box, told, locks), self.groups(n, rows))
        for inlet in range(1, n + 1):
            driven = len(found) == 1 and inlet not in standing
            speeds = speeds_of(box, told, locks, inlet)
            self.assertEqual(speeds is not None, driven)
            if driven:
                self.assertEqual([len(speeds), speeds[0], speeds[inlet]], [n + 1, (0, 1), (1, 1)])
                self.assertTrue(oracle.is_motion(n, box.works, told, locks, speeds))

    def groups(self, n, rows):
        groups = []
        for shaft in range(n + 1):
            for group in groups:
                if oracle.tells(rows, oracle.difference_row(n, (shaft, group[0]))):
                    group.append(shaft)
                    break
            else:
                groups.append([shaft])
        return groups

    def test_holds_of_chance_speeds(self):
        chance = random.Random(4)
        seen = {True: 0, False: 0}
        for box, told, locks in chance_boxes(61, 200, 4, 2, 2):
            worths = [[Fraction(*speed) for speed in motion] for motion in motions(box, told, locks)]
            factors = [chance.randint(-3, 3) for _ in worths]
            total = [sum(f * row[k] for f, row in zip(factors, worths)) for k in range(box.shafts + 1)]
            if chance.random() < 0.5:
                total[chance.randint(1, box.shafts)] += Fraction(1, 7)
            speeds = [(one.numerator, one.denominator) if total else (0, 1) for one in map(Fraction, total)]
            right = oracle.is_motion(box.shafts, box.works, told, locks, speeds)
            seen[right] += 1
            self.assertIs(holds(box, told, locks, speeds), right)
        self.assertGreater(min(seen.values()), 20)


class GreatBoxesTest(unittest.TestCase):
    def test_8_shafts_6_works_8_locks_12_digits(self):
        works = [("planet", 1, 2, 3), ("double", 3, 4, 5), ("pair", 5, 6), ("band", 6, 7), ("planet", 7, 8, 0),
                 ("double", 2, 6, 8)]
        told = [lowest(999999999989 - 7 * k, 999999999961 - 2 * k) for k in range(6)]
        box = Box(8, works)
        self.assertEqual(freedom(box, told, []), 2)
        for motion in motions(box, told, []):
            self.assertTrue(oracle.is_motion(8, works, told, [], motion))
            self.assertIs(holds(box, told, [], motion), True)
        speeds = speeds_of(box, told, [(8, 1)], 1)
        self.assertTrue(oracle.is_motion(8, works, told, [(8, 1)], speeds))
        locks = [(1, 0), (2, 1), (3, 0), (4, 2), (5, 3), (6, 1), (7, 5), (8, 0)]
        self.assertEqual(freedom(box, told, locks), 0)
        self.assertEqual(still(box, told, locks), list(range(9)))
