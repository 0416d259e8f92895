"""Point 24: ratios told by looks, works on which speeds hang, and plans of looks."""

import random
from fractions import Fraction

from planetlocks.boxes import Box, is_fraction
from planetlocks.errors import (
    Contradiction, InvalidFraction, InvalidGears, InvalidLooks, InvalidShaft, NotDriven, NotTelling, Unbalanced,
)
from planetlocks.motions import holds, motions, speeds_of
from planetlocks.ranges import ratios_for, speed_range
from planetlocks.told import depends, look_plan, ratio_from, told_by
from planetlocks.trees import driven
from tests import oracle
from tests.gears import all_locks, driven_gears, random_gears, random_told
from tests.judging import JudgingTest

SET_OF = Box(3, [("planet", 1, 2, 3)])
DOUBLE = Box(3, [("double", 1, 2, 3)])
# Two sets with one ring, behind one another; a band beside them that nothing else drives.
ROW = Box(6, [("planet", 1, 2, 3), ("planet", 2, 4, 3), ("band", 5, 6)])
STILL = [(0, 1)] * 4
SEEN = [(0, 1), (1, 1), (2, 7), (0, 1)]


def mixed_motion(chance, box, told, locks):
    """The sum of all motions with numbers by chance, some of them 0."""
    total = [Fraction(0)] * (box.shafts + 1)
    for motion in motions(box, told, locks):
        factor = chance.choice([0, 1, Fraction(-2, 3), 5])
        total = [a + factor * Fraction(*b) for a, b in zip(total, motion)]
    return [(speed.numerator, speed.denominator) for speed in total]


class ToldByTest(JudgingTest):
    def fails_at(self, at, box, looks):
        with self.assertRaises(Contradiction) as caught:
            told_by(box, looks)
        self.assertEqual(caught.exception.at, at)
        self.assertIs(type(caught.exception), Contradiction)

    def test_by_hand(self):
        self.assertEqual(told_by(SET_OF, [([(3, 0)], SEEN)]), [(5, 2)])
        self.assertEqual(told_by(SET_OF, [([], SEEN)]), [(5, 2)])
        self.assertEqual(told_by(SET_OF, [([(3, 0)], SEEN), ([(2, 0)], [(0, 1), (5, 1), (0, 1), (-2, 1)])]), [(5, 2)])
        self.assertEqual(told_by(DOUBLE, [([(2, 0)], [(0, 1), (5, 1), (0, 1), (2, 1)])]), [(5, 2)])
        self.assertEqual(told_by(Box(2, [("pair", 1, 2)]), [([], [(0, 1), (1, 1), (-1, 3)])]), [(3, 1)])
        self.assertEqual(told_by(Box(2, [("band", 1, 2)]), [([], [(0, 1), (1, 1), (1, 3)])]), [(3, 1)])

    def test_nothing_told(self):
        self.assertEqual(told_by(SET_OF, []), [None])
        self.assertEqual(told_by(Box(2, []), []), [])
        self.assertEqual(told_by(Box(2, []), [([(2, 1)], [(0, 1), (4, 1), (4, 1)])]), [])
        self.assertEqual(told_by(SET_OF, [([], STILL), ([(2, 1)], [(0, 1), (3, 1), (3, 1), (3, 1)])]), [None])
        self.assertEqual(told_by(SET_OF, [([], STILL), ([], SEEN), ([], STILL)]), [(5, 2)])
        box = Box(4, [("planet", 1, 2, 3), ("band", 3, 4)])
        self.assertEqual(told_by(box, [([(3, 0)], SEEN + [(0, 1)])]), [(5, 2), None])

    def test_a_look_that_keeps_no_lock(self):
        self.fails_at(0, SET_OF, [([(2, 0)], SEEN)])
        self.fails_at(0, SET_OF, [([(2, 1), (3, 0)], SEEN)])
        self.fails_at(1, SET_OF, [([], STILL), ([(1, 0)], SEEN), ([(2, 0)], SEEN)])
        self.fails_at(0, Box(2, []), [([(2, 1)], [(0, 1), (4, 1), (3, 1)])])

    def test_a_look_that_fits_no_ratio(self):
        # The second difference is 0 and the first one is not; the ratio would be 0, or below 0.
        self.fails_at(0, SET_OF, [([], [(0, 1), (1, 1), (0, 1), (0, 1)])])
        self.fails_at(0, SET_OF, [([], [(0, 1), (1, 1), (1, 1), (0, 1)])])
        self.fails_at(0, SET_OF, [([], [(0, 1), (1, 1), (0, 1), (1, 1)])])
        self.fails_at(0, DOUBLE, [([], [(0, 1), (1, 1), (0, 1), (-1, 1)])])
        self.fails_at(2, SET_OF, [([], STILL), ([], SEEN), ([], [(0, 1), (1, 1), (0, 1), (1, 1)])])

    def test_a_look_that_fits_another_ratio(self):
        other = [(0, 1), (1, 1), (1, 4), (0, 1)]
        self.assertEqual(told_by(SET_OF, [([], other)]), [(3, 1)])
        self.fails_at(1, SET_OF, [([], SEEN), ([], other), ([], SEEN)])
        self.fails_at(1, SET_OF, [([], other), ([], SEEN)])
        self.fails_at(2, SET_OF, [([], other), ([], other), ([], SEEN), ([(1, 0)], SEEN)])

    def test_by_chance(self):
        chance = random.Random(1)
        seen = set()
        for box, ratios, locks in random_gears(1, 300, shafts=(2, 3, 4, 5)):
            told = random_told(chance, ratios)
            looks = []
            for _ in range(chance.randint(0, 4)):
                held = sorted(chance.sample(locks, chance.randint(0, len(locks))))
                looks.append((held, mixed_motion(chance, box, told, held)))
            due = list(told)
            for at, work in enumerate(box.works):
                (_, _), (c, d) = oracle.differences_of(work)
                if all(speeds[c] == speeds[d] for _, speeds in looks):
                    due[at] = None
            with self.subTest(works=box.works, looks=looks):
                found = told_by(box, looks)
                self.assertEqual(found, due)
                self.assertTrue(all(ratio is None or is_fraction(ratio) for ratio in found))
                self.assertTrue(all(holds(box, [r or (1, 1) for r in found], held, s) for held, s in looks))
            seen |= {ratio is None for ratio in found}
        self.assertEqual(seen, {True, False})

    def test_any_looks(self):
        """Whether and where looks contradict, judged look by look."""
        chance = random.Random(2)
        numbers = [(0, 1), (1, 1), (-1, 1), (1, 2), (2, 1)]
        places = set()
        for _ in range(3000):
            box = Box(3, [chance.choice([("planet", 1, 2, 3), ("double", 1, 2, 3), ("pair", 1, 2), ("band", 3, 1)])
                          for _ in range(chance.randint(1, 2))])
            looks = [([(2, 1)] if chance.random() < 0.2 else [], [(0, 1)] + [chance.choice(numbers) for _ in range(3)])
                     for _ in range(chance.randint(1, 3))]
            wrong = self.first_wrong(box, looks)
            if wrong is None:
                told_by(box, looks)
            else:
                self.fails_at(wrong, box, looks)
            places.add(wrong)
        self.assertEqual(places, {None, 0, 1, 2})

    def first_wrong(self, box, looks):
        for at in range(len(looks)):
            for locks, speeds in looks[:at + 1]:
                if any(speeds[a] != speeds[b] for a, b in locks):
                    return at
            for work in box.works:
                rows = []
                for _, speeds in looks[:at + 1]:
                    worths = [Fraction(*speed) for speed in speeds]
                    (a, b), (c, d) = oracle.differences_of(work)
                    rows.append((worths[a] - worths[b], oracle.sense_of(work) * (worths[c] - worths[d])))
                ratios = {-one / two for one, two in rows if two}
                if any(one and not two for one, two in rows) or len(ratios) > 1 or any(x <= 0 for x in ratios):
                    return at
        return None

    def test_invalid_looks(self):
        for looks in (((([], SEEN)),), [[[], SEEN]], [([], SEEN, 0)], [([],)], [([(0, 3)], SEEN)], [([], SEEN[:3])],
                      [([], SEEN + [(0, 1)])], [([], [(1, 1)] * 4)], [([], tuple(SEEN))], [(((3, 0),), SEEN)],
                      [([], [(0, 1), (1, 1), (2, 14), (0, 1)])], [([], SEEN), None], [([(3, 0), (2, 0)], STILL)],
                      [([(2, 0), (2, 0)], STILL)], [([], [0, 1, 1, 0])], [([], [(0, 1), (True, 1), (0, 1), (0, 1)])],
                      [([(2, 0)], SEEN), ([(4, 0)], SEEN)]):
            with self.subTest(looks=looks), self.assertRaises(InvalidLooks):
                told_by(SET_OF, looks)


class DependsTest(JudgingTest):
    def test_by_hand(self):
        self.assertEqual(depends(SET_OF, [None], [(3, 0)], 1, 2), [0])
        self.assertEqual(depends(SET_OF, [(5, 2)], [(3, 0)], 1, 2), [])
        for shaft in (0, 1, 3):
            self.assertEqual(depends(SET_OF, [None], [(3, 0)], 1, shaft), [])
        self.assertEqual(depends(SET_OF, [None], [(2, 1)], 1, 3), [])
        locks = [(3, 0), (5, 1)]
        self.assertEqual([depends(ROW, [None] * 3, locks, 1, shaft) for shaft in range(7)],
                         [[], [], [0], [], [0, 1], [], [2]])
        self.assertEqual([depends(ROW, [None, None, (3, 1)], locks, 2, shaft) for shaft in range(7)],
                         [[], [0], [], [], [1], [0], [0]])

    def test_the_inlet_may_hang_on_a_work_and_the_quotient_not(self):
        """The ratio of a work that stands in all forms, but falls out of their quotients."""
        box = Box(5, [("planet", 1, 2, 3), ("planet", 4, 5, 3)])
        locks = [(3, 0), (5, 4)]
        self.assertEqual(driven(box, [None, None], locks, 1), "all")
        self.assertEqual(depends(box, [None, None], locks, 1, 2), [0])

    def test_random_gears(self):
        chance = random.Random(3)
        sizes = set()
        for box, ratios, locks, inlet in driven_gears(3, 500):
            for shaft in range(box.shafts + 1):
                due = []
                for at in [k for k, ratio in enumerate(ratios) if ratio is None]:
                    for _ in range(4):
                        told = random_told(chance, [None if r is None else r for r in ratios])
                        told = [(chance.randint(1, 50), 53) if r is None else t for r, t in zip(ratios, told)]
                        other = list(told)
                        other[at] = (told[at][0] + 53, 53)
                        one = speeds_of(box, told, locks, inlet)[shaft]
                        if one != speeds_of(box, other, locks, inlet)[shaft]:
                            due.append(at)
                            break
                with self.subTest(works=box.works, ratios=ratios, locks=locks, inlet=inlet, shaft=shaft):
                    found = depends(box, ratios, locks, inlet, shaft)
                    self.assertEqual(found, due)
                sizes.add(len(found))
                low, high = speed_range(box, ratios, locks, inlet, shaft)
                self.assertEqual(found == [], low is not None and low == high)
        self.assertLessEqual({0, 1, 2, 3}, sizes)


class RatioFromTest(JudgingTest):
    def test_by_hand(self):
        self.assertEqual(ratio_from(SET_OF, [None], [(3, 0)], 1, 2, (2, 7)), (5, 2))
        self.assertIsNone(ratio_from(SET_OF, [None], [(3, 0)], 1, 2, (2, 1)))
        self.assertIsNone(ratio_from(SET_OF, [None], [(3, 0)], 1, 2, (1, 1)))
        self.assertIsNone(ratio_from(SET_OF, [None], [(3, 0)], 1, 2, (0, 1)))
        self.assertIsNone(ratio_from(SET_OF, [None], [(3, 0)], 1, 2, (-1, 2)))
        self.assertEqual(ratio_from(ROW, [None, (3, 1), None], [(3, 0), (5, 1)], 1, 4, (1, 20)), (4, 1))
        self.assertEqual(ratio_from(ROW, [None, None, None], [(3, 0), (5, 1)], 1, 6, (1, 20)), (20, 1))
        self.assertIsNone(ratio_from(ROW, [None, None, None], [(3, 0), (5, 1)], 1, 6, (-1, 20)))

    def test_not_telling(self):
        for shaft in (0, 1, 3):
            with self.assertRaises(NotTelling):
                ratio_from(SET_OF, [None], [(3, 0)], 1, shaft, (2, 7))
        with self.assertRaises(NotTelling):
            ratio_from(SET_OF, [(5, 2)], [(3, 0)], 1, 2, (2, 7))
        with self.assertRaises(NotTelling):
            ratio_from(ROW, [None, None, None], [(3, 0), (5, 1)], 1, 4, (1, 20))
        with self.assertRaises(NotTelling):
            ratio_from(ROW, [None, None, (1, 1)], [(3, 0), (5, 1)], 1, 6, (1, 20))

    def test_random_gears(self):
        chance = random.Random(4)
        counts = [0, 0]
        for box, ratios, locks, inlet in driven_gears(4, 600):
            for shaft in range(1, box.shafts + 1):
                found = depends(box, ratios, locks, inlet, shaft)
                if len(found) != 1:
                    with self.assertRaises(NotTelling):
                        ratio_from(box, ratios, locks, inlet, shaft, (1, 3))
                    continue
                told = random_told(chance, ratios)
                speed = speeds_of(box, told, locks, inlet)[shaft]
                with self.subTest(works=box.works, ratios=ratios, locks=locks, inlet=inlet, shaft=shaft):
                    self.assertEqual(ratio_from(box, ratios, locks, inlet, shaft, speed), told[found[0]])
                    for speed in ((0, 1), (1, 1), (-1, 1), (1, 3), (-7, 2)):
                        ratio = ratio_from(box, ratios, locks, inlet, shaft, speed)
                        counts[ratio is None] += 1
                        self.assertEqual(ratio is None,
                                         ratios_for(box, ratios, locks, inlet, shaft, speed) is None)
                        if ratio is not None:
                            told[found[0]] = ratio
                            self.assertEqual(speeds_of(box, told, locks, inlet)[shaft], speed)
        self.assertTrue(min(counts) > 50)


class LookPlanTest(JudgingTest):
    def test_by_hand(self):
        self.assertEqual(look_plan(SET_OF, [None], [[(3, 2)], [(3, 0)]], 1), [(1, 2, 0)])
        self.assertEqual(look_plan(SET_OF, [None], [[(2, 0)], [(3, 0)]], 1), [(0, 3, 0)])
        self.assertEqual(look_plan(SET_OF, [(5, 2)], [[(2, 0)], [(3, 0)]], 1), [])
        self.assertEqual(look_plan(SET_OF, [None], [[(3, 2)], [(3, 2)]], 1), [])
        locks = [(3, 0), (5, 1)]
        self.assertEqual(look_plan(ROW, [None] * 3, [locks], 1), [(0, 2, 0), (0, 4, 1), (0, 6, 2)])
        self.assertEqual(look_plan(ROW, [None, None, (1, 1)], [locks], 4), [(0, 2, 1), (0, 1, 0)])

    def test_without_gears(self):
        self.assertEqual(look_plan(SET_OF, [None], [], 1), [])
        self.assertEqual(look_plan(Box(1, []), [], [[]], 1), [])

    def test_each_turn_looks_from_the_first_gear_on(self):
        # The second gear tells the ratio with which the first one tells another.
        box = Box(4, [("planet", 1, 2, 3), ("planet", 2, 4, 3)])
        self.assertEqual(depends(box, [None, None], [(3, 0)], 1, 4), [0, 1])
        chance = random.Random(5)
        lengths = set()
        for _ in range(150):
            n = chance.choice([3, 4, 5])
            works = [work for work in (("planet", 1, 2, 3), ("double", 3, 1, 2), ("pair", 1, n), ("band", n, 2))
                     if chance.random() < 0.6][:n - 2]
            box = Box(n, works)
            ratios = [None if chance.random() < 0.8 else (2, 3) for _ in works]
            gears = []
            for _ in range(8):
                locks = sorted(chance.sample(all_locks(n), n - 1 - len(works)))
                if driven(box, ratios, locks, 1) == "all":
                    gears.append(locks)
            plan = look_plan(box, ratios, gears, 1)
            self.assertEqual(plan, self.slow_plan(box, ratios, gears, 1))
            lengths.add(len(plan))
        self.assertLessEqual({0, 1, 2}, lengths)

    def slow_plan(self, box, ratios, gears, inlet):
        plan = []
        while True:
            for at, shaft in [(at, shaft) for at in range(len(gears)) for shaft in range(1, box.shafts + 1)]:
                fresh = [work for work in depends(box, ratios, gears[at], inlet, shaft)
                         if work not in [step[2] for step in plan]]
                if len(fresh) == 1:
                    plan.append((at, shaft, fresh[0]))
                    break
            else:
                return plan

    def test_the_first_faulty_gear(self):
        for gears, error in (([[(3, 0)], [], [(1, 0)]], Unbalanced), ([[(3, 0)], [(1, 0)], []], NotDriven),
                             ([[(1, 0), (2, 0)]], Unbalanced), ([[(1, 0)]], NotDriven)):
            with self.assertRaises(error):
                look_plan(SET_OF, [None], gears, 1)
        with self.assertRaises(NotDriven):
            look_plan(DOUBLE, [None], [[(2, 0)], [(3, 0)]], 1)


class ErrorsTest(JudgingTest):
    def test_order(self):
        for call in (lambda *given: depends(*given, 2), lambda *given: ratio_from(*given, 2, (2, 7))):
            with self.assertRaises(Unbalanced):
                call(SET_OF, [None], [], 1)
            with self.assertRaises(NotDriven):
                call(SET_OF, [None], [(1, 0)], 1)
            with self.assertRaises(NotDriven):
                call(DOUBLE, [None], [(3, 0)], 1)
            with self.assertRaises(InvalidShaft):
                call(SET_OF, [None], [], 4)
        with self.assertRaises(InvalidShaft):
            depends(SET_OF, [None], [], 1, 4)
        with self.assertRaises(InvalidFraction):
            ratio_from(SET_OF, [None], [], 1, 2, (2, 14))
        with self.assertRaises(InvalidGears):
            look_plan(SET_OF, [None], [[(1, 0)], [(0, 1)]], 0)
        with self.assertRaises(InvalidShaft):
            look_plan(SET_OF, [None], [[(1, 0)], []], 0)


class GreatestTest(JudgingTest):
    def test_greatest(self):
        box = Box(8, [("planet", 1, 2, 3), ("planet", 1, 3, 4), ("planet", 2, 4, 5), ("planet", 1, 5, 6),
                      ("planet", 3, 6, 7), ("band", 7, 8)])
        gears = [[(5, 0)], [(7, 0)], [(2, 1)], [(8, 0)], [(6, 0)], [(4, 0)], [(3, 1)], [(5, 1)]]
        gears = [gear for gear in gears if driven(box, [None] * 6, gear, 1) == "all"]
        self.assertGreater(len(gears), 4)
        plan = look_plan(box, [None] * 6, gears, 1)
        self.assertEqual(plan, LookPlanTest().slow_plan(box, [None] * 6, gears, 1))
        told = [(10 ** 12 - 1, 10 ** 12)] * 6
        looks = [(gear, speeds_of(box, told, gear, 1)) for gear in (gears * 2)[:12]]
        self.assertEqual(told_by(box, looks), told)
        self.assertEqual(depends(box, [None] * 6, [(5, 0)], 1, 8), [0, 1, 2, 3, 4, 5])
