"""Point 25: gears of offered locks, their kinds, sure steps, levels and longest ladders."""

import random
from itertools import combinations, permutations

from planetlocks.boxes import Box
from planetlocks.errors import InvalidLocks, InvalidRatios, InvalidShaft, NotNeighbours
from planetlocks.plans import gears_of, judge_ladder, kinds_of, levels, longest_ladder, sure_steps
from planetlocks.ranges import speed_range
from planetlocks.steps import changed, ladder, step_sense
from planetlocks.trees import driven
from tests import oracle
from tests.gears import TOLD, all_locks, random_told, random_work, tries
from tests.judging import JudgingTest
from tests.values import any_values

SET_OF = Box(3, [("planet", 1, 2, 3)])
DOUBLE = Box(3, [("double", 1, 2, 3)])
OFFERED = [(2, 0), (2, 1), (3, 0)]
# A gearbox as in cars: two sets, brakes on both rings, a clutch.
CAR = Box(5, [("planet", 1, 2, 3), ("planet", 2, 4, 5)])
CAR_LOCKS = [(2, 1), (3, 0), (3, 2), (4, 2), (5, 0), (5, 4)]


def random_plans(seed, count, most=6):
    """Tuples (box, ratios, offered, inlet, outlet)."""
    chance = random.Random(seed)
    found = []
    for _ in range(count):
        n = chance.choice([2, 3, 4, 5])
        works = [random_work(chance, n) for _ in range(chance.randint(max(0, n - 4), n))]
        ratios = [chance.choice(TOLD) if chance.random() < 0.3 else None for _ in works]
        locks = all_locks(n)
        offered = sorted(chance.sample(locks, min(len(locks), chance.randint(0, most))))
        found.append((Box(n, works), ratios, offered, chance.randint(1, n), chance.randint(1, n)))
    return found


def are_neighbours(box, one, other):
    try:
        changed(box.shafts, one, other)
    except NotNeighbours:
        return False
    return True


class GearsTest(JudgingTest):
    def test_by_hand(self):
        self.assertEqual(gears_of(SET_OF, [None], OFFERED, 1), [[(2, 0)], [(2, 1)], [(3, 0)]])
        self.assertEqual(gears_of(SET_OF, [None], [(1, 0)] + OFFERED, 1), [[(2, 0)], [(2, 1)], [(3, 0)]])
        self.assertEqual(gears_of(DOUBLE, [None], OFFERED, 1), [[(2, 0)], [(2, 1)]])
        self.assertEqual(gears_of(DOUBLE, [(2, 1)], OFFERED, 1), [[(2, 0)], [(2, 1)], [(3, 0)]])
        self.assertEqual(kinds_of(SET_OF, [None], OFFERED, 1, 2), ["still", "forward", "forward"])
        self.assertEqual(kinds_of(SET_OF, [None], OFFERED, 1, 3), ["back", "forward", "still"])
        self.assertEqual(kinds_of(SET_OF, [None], OFFERED, 1, 1), ["forward"] * 3)

    def test_either(self):
        self.assertEqual(kinds_of(DOUBLE, [None], [(2, 0), (3, 0)], 2, 1), ["either"])
        self.assertEqual(kinds_of(DOUBLE, [(1, 2)], [(3, 0)], 2, 1), ["forward"])
        self.assertEqual(kinds_of(DOUBLE, [(1, 1)], [(3, 0)], 2, 1), ["still"])
        self.assertEqual(kinds_of(DOUBLE, [(2, 1)], [(3, 0)], 2, 1), ["back"])

    def test_no_offered_locks(self):
        self.assertEqual(gears_of(SET_OF, [None], [], 1), [])
        for call in (kinds_of, sure_steps, levels, longest_ladder):
            self.assertEqual(call(SET_OF, [None], [], 1, 2), [])

    def test_a_box_that_is_balanced_without_locks(self):
        wheels = Box(2, [("pair", 1, 2)])
        for offered in ([], [(1, 0), (2, 1)]):
            self.assertEqual(gears_of(wheels, [None], offered, 1), [[]])
            self.assertEqual(kinds_of(wheels, [None], offered, 1, 2), ["back"])
            self.assertEqual(sure_steps(wheels, [None], offered, 1, 2), [])
            self.assertEqual(levels(wheels, [None], offered, 1, 2), [0])
            self.assertEqual(longest_ladder(wheels, [None], offered, 1, 2), [0])
        self.assertEqual(gears_of(Box(2, [("planet", 1, 0, 2), ("pair", 1, 2)]), [None, None], [(1, 0)], 1), [])
        self.assertEqual(gears_of(Box(1, []), [], [], 1), [[]])
        self.assertEqual(gears_of(Box(1, [("planet", 1, 2, 0)][:0]), [], [(1, 0)], 1), [[]])

    def test_more_offered_than_can_be_put_on(self):
        found = gears_of(CAR, [None, None], CAR_LOCKS, 1)
        self.assertTrue(all(len(gear) == 2 for gear in found))
        self.assertEqual(found, sorted(found))
        self.assertGreater(len(found), 5)
        # Fewer than are needed.
        self.assertEqual(gears_of(CAR, [None, None], CAR_LOCKS[:1], 1), [])

    def test_random_plans(self):
        words = set()
        for box, ratios, offered, inlet, outlet in random_plans(1, 500):
            with self.subTest(works=box.works, ratios=ratios, offered=offered, inlet=inlet, outlet=outlet):
                size = box.shafts - 1 - len(box)
                due = [list(gear) for gear in combinations(offered, size)] if size >= 0 else []
                due = [gear for gear in due if driven(box, ratios, gear, inlet) == "all"]
                self.assertEqual(gears_of(box, ratios, offered, inlet), due)
                kinds = kinds_of(box, ratios, offered, inlet, outlet)
                self.assertEqual(len(kinds), len(due))
                for gear, kind in zip(due, kinds):
                    speeds = [oracle.speeds(box.shafts, box.works, told, gear, inlet)[outlet]
                              for told in tries(ratios)[:60] + oracle.corners(ratios)]
                    signs = {(speed > 0) - (speed < 0) for speed in speeds}
                    words.add(kind)
                    expected = {"forward": {1}, "back": {-1}, "still": {0}}
                    self.assertEqual(signs, expected.get(kind, signs))
                    if kind == "either":
                        self.assertLessEqual({1, -1}, signs)
        self.assertEqual(words, {"forward", "back", "still", "either"})


class StepsTest(JudgingTest):
    def test_by_hand(self):
        self.assertEqual(sure_steps(SET_OF, [None], OFFERED, 1, 2), [(0, 1), (0, 2), (2, 1)])
        self.assertEqual(levels(SET_OF, [None], OFFERED, 1, 2), [0, 2, 1])
        self.assertEqual(longest_ladder(SET_OF, [None], OFFERED, 1, 2), [0, 2, 1])
        self.assertEqual(sure_steps(SET_OF, [None], OFFERED, 1, 1), [])
        self.assertEqual(levels(SET_OF, [None], OFFERED, 1, 1), [0, 0, 0])
        self.assertEqual(len(longest_ladder(SET_OF, [None], OFFERED, 1, 1)), 1)

    def test_random_plans(self):
        lengths = set()
        cars = [(CAR, [None, None], CAR_LOCKS, inlet, outlet) for inlet in (1, 2) for outlet in range(1, 6)]
        for box, ratios, offered, inlet, outlet in random_plans(2, 300) + cars:
            given = (box, ratios, offered, inlet, outlet)
            gears = gears_of(*given[:4])
            with self.subTest(works=box.works, ratios=ratios, offered=offered, inlet=inlet, outlet=outlet):
                steps = [(k, m) for k in range(len(gears)) for m in range(len(gears))
                         if are_neighbours(box, gears[k], gears[m])
                         and step_sense(box, ratios, gears[k], gears[m], inlet, outlet) == "plus"]
                self.assertEqual(sure_steps(*given), steps)
                heights = [self.height(steps, at) for at in range(len(gears))]
                self.assertEqual(levels(*given), heights)
                found = longest_ladder(*given)
                self.assertEqual(len(found), max(heights, default=-1) + 1)
                self.assertTrue(all(pair in steps for pair in zip(found, found[1:])))
                self.assertIs(judge_ladder(*given, found), True)
                row = [gears[at] for at in found]
                self.assertEqual(ladder(box, ratios, row, inlet, outlet), ["plus"] * max(0, len(row) - 1))
                lengths.add(len(found))
        self.assertLessEqual({0, 1, 2, 3, 4}, lengths)

    def height(self, steps, at):
        """By the words of the document; endless if a row of steps led back to a gear."""
        return max([self.height(steps, low) + 1 for low, high in steps if high == at], default=0)

    def test_told_ratios_keep_sure_steps(self):
        chance = random.Random(3)
        for box, ratios, offered, inlet, outlet in random_plans(3, 100):
            gears = gears_of(box, ratios, offered, inlet)
            told = random_told(chance, ratios)
            later = gears_of(box, told, offered, inlet)
            self.assertTrue(all(gear in later for gear in gears))
            steps = sure_steps(box, told, offered, inlet, outlet)
            for low, high in sure_steps(box, ratios, offered, inlet, outlet):
                self.assertIn((later.index(gears[low]), later.index(gears[high])), steps)
                one = speed_range(box, told, gears[low], inlet, outlet)[0]
                other = speed_range(box, told, gears[high], inlet, outlet)[0]
                self.assertLess(one[0] * other[1], other[0] * one[1])


class LadderTest(JudgingTest):
    def test_all_rows(self):
        """judge_ladder takes exactly the rows of sure steps that are as long as can be."""
        for box, ratios, offered, inlet, outlet in random_plans(4, 150, most=4):
            given = (box, ratios, offered, inlet, outlet)
            steps = sure_steps(*given)
            count = len(gears_of(*given[:4]))
            if count > 5:
                continue
            rows = [list(row) for size in range(count + 1) for row in permutations(range(count), size)]
            rows = [row for row in rows if all(pair in steps for pair in zip(row, row[1:]))]
            most = max(len(row) for row in rows)
            for row in rows:
                self.assertIs(judge_ladder(*given, row), len(row) == most)

    def test_without_gears_and_with_one(self):
        self.assertEqual(longest_ladder(SET_OF, [None], [], 1, 2), [])
        self.assertIs(judge_ladder(SET_OF, [None], [], 1, 2, []), True)
        self.assertIs(judge_ladder(SET_OF, [None], [], 1, 2, [0]), False)
        self.assertEqual(longest_ladder(SET_OF, [None], [(3, 0)], 1, 2), [0])
        self.assertIs(judge_ladder(SET_OF, [None], [(3, 0)], 1, 2, [0]), True)
        for value in ([], [1], [-1], [0, 0], (0,), 0, None):
            self.assertIs(judge_ladder(SET_OF, [None], [(3, 0)], 1, 2, value), False)

    def test_values(self):
        given = (SET_OF, [None], OFFERED, 1, 2)
        self.assertIs(judge_ladder(*given, [0, 2, 1]), True)
        for value in any_values():
            self.assertIs(judge_ladder(*given, value), False)
            self.assertIs(judge_ladder(*given, [0, 2, value]), type(value) is int and value == 1)
            self.assertIs(judge_ladder(SET_OF, [None], [], 1, 2, value), type(value) is list and value == [])
        for value in ([0, 1], [0, 2], [2, 1], [0], [], [0, 2, 1, 1], (0, 2, 1), [0, 2, True], [False, 2, 1], [1, 2, 0], [1, 2, 1],
                      [2, 2, 1], [0, 0, 1], [0, 2, 0],
                      [0, 2, -2], [0, 2, 4], ["0", "2", "1"]):
            self.assertIs(judge_ladder(*given, value), False)

    def test_a_bench_of_sure_steps(self):
        found = longest_ladder(CAR, [None, None], CAR_LOCKS, 1, 4)
        self.assertGreater(len(found), 3)
        self.assertIs(judge_ladder(CAR, [None, None], CAR_LOCKS, 1, 4, found), True)
        self.assertIs(judge_ladder(CAR, [None, None], CAR_LOCKS, 1, 4, found[1:]), False)
        self.assertIs(judge_ladder(CAR, [None, None], CAR_LOCKS, 1, 4, found[::-1]), False)


class ErrorsTest(JudgingTest):
    def test_order(self):
        for call in (kinds_of, sure_steps, levels, longest_ladder,
                     lambda *given: judge_ladder(*given, None)):
            with self.assertRaises(InvalidRatios):
                call(SET_OF, [], [(0, 1)], 0, 0)
            with self.assertRaises(InvalidLocks):
                call(SET_OF, [None], [(2, 1), (2, 0)], 0, 0)
            with self.assertRaises(InvalidShaft):
                call(SET_OF, [None], OFFERED, 4, 2)
            with self.assertRaises(InvalidShaft):
                call(SET_OF, [None], OFFERED, 1, 0)
        with self.assertRaises(InvalidShaft):
            gears_of(SET_OF, [None], [], 0)


class GreatestTest(JudgingTest):
    def test_greatest(self):
        # Five works, six offered locks, and as many gears as can be: two or three of six locks.
        for n in (7, 8):
            works = [("planet", 1, 2, 3), ("planet", 2, 4, 3), ("double", 4, 5, 6), ("planet", 5, 6, 7),
                     ("planet", 1, n, 4)][:5 if n == 8 else 4]
            box = Box(n, works)
            offered = [(2, 0), (3, 0), (4, 1), (5, 2), (6, 0), (7, 5)]
            for ratios in ([None] * len(works), [(10 ** 12 - 1, 10 ** 12)] * len(works)):
                given = (box, ratios, offered, 1, 7)
                found = longest_ladder(*given)
                self.assertIs(judge_ladder(*given, found), True)
                self.assertEqual(len(levels(*given)), len(gears_of(*given[:4])))
