"""Point 22: balances, ranges of torques and loads, the power of locks, and freewheels."""

import random
from fractions import Fraction

from planetlocks.boxes import Box, is_fraction
from planetlocks.errors import InvalidIndex, InvalidLock, InvalidShaft, NotDriven, NotNeighbours, Unbalanced
from planetlocks.loads import (
    balance, freewheel, is_balance, load_range, power_sense, torque_range, work_load_range,
)
from planetlocks.motions import speeds_of
from planetlocks.steps import step_sense
from planetlocks.trees import driven
from tests import oracle
from tests.gears import random_gears, random_neighbours, random_told, tries
from tests.judging import JudgingTest
from tests.values import any_values

SET_OF = Box(3, [("planet", 1, 2, 3)])
DOUBLE = Box(3, [("double", 1, 2, 3)])
ENDS = ((-1, 1), (0, 1), (1, 1), None)


def fractions(found):
    """The torque and all loads of a balance in one list."""
    torque, works, locks = found
    return [Fraction(*load) for load in [torque] + works + locks]


def outlet_gears(seed, count):
    """Tuples (box, ratios, locks, inlet, outlet) of gears that are driven by the outlet for all ratios."""
    chance = random.Random(seed)
    found = []
    for box, ratios, locks in random_gears(seed, count):
        inlet, outlet = chance.randint(1, box.shafts), chance.randint(1, box.shafts)
        if driven(box, ratios, locks, outlet) == "all":
            found.append((box, ratios, locks, inlet, outlet))
    return found


class BalanceTest(JudgingTest):
    def test_by_hand(self):
        self.assertEqual(balance(SET_OF, [(5, 2)], [(3, 0)], 1, 2), ((-7, 2), [(-1, 1)], [(5, 2)]))
        self.assertEqual(balance(SET_OF, [(5, 2)], [(2, 0)], 1, 3), ((5, 2), [(-1, 1)], [(-7, 2)]))
        self.assertEqual(balance(SET_OF, [(5, 2)], [(2, 1)], 1, 3), ((-1, 1), [(2, 5)], [(7, 5)]))
        self.assertEqual(balance(Box(2, [("pair", 1, 2)]), [(3, 1)], [], 1, 2), ((3, 1), [(-1, 1)], []))
        self.assertEqual(balance(Box(2, [("band", 1, 2)]), [(3, 1)], [], 1, 2), ((-3, 1), [(-1, 1)], []))
        self.assertEqual(balance(Box(2, []), [], [(2, 1)], 1, 2), ((-1, 1), [], [(1, 1)]))

    def test_the_outlet_is_the_inlet(self):
        self.assertEqual(balance(SET_OF, [(5, 2)], [(3, 0)], 1, 1), ((-1, 1), [(0, 1)], [(0, 1)]))
        self.assertEqual(balance(Box(1, []), [], [], 1, 1), ((-1, 1), [], []))
        self.assertIsNone(balance(SET_OF, [(5, 2)], [(3, 0)], 3, 3))

    def test_none_and_several(self):
        # The ring is held, so it takes no torque that the inlet could bring through the set; nothing holds the shaft 2.
        self.assertIsNone(balance(SET_OF, [(5, 2)], [(3, 0)], 1, 3))
        self.assertIsNone(balance(Box(2, []), [], [(1, 0)], 2, 1))
        # What comes onto a held shaft may go into the brake or out again: there are several.
        self.assertIsNone(balance(Box(2, []), [], [(1, 0)], 1, 1))
        value = ((-1, 1), [], [(0, 1)])
        self.assertTrue(is_balance(Box(2, []), [], [(1, 0)], 1, 1, value))
        self.assertTrue(is_balance(Box(2, []), [], [(1, 0)], 1, 1, ((3, 2), [], [(-5, 2)])))
        self.assertFalse(is_balance(Box(2, []), [], [(1, 0)], 2, 1, value))

    def test_random_gears(self):
        chance = random.Random(1)
        found_some = set()
        for box, ratios, locks in random_gears(1, 700):
            told = random_told(chance, ratios)
            inlet, outlet = chance.randint(1, box.shafts), chance.randint(1, box.shafts)
            with self.subTest(works=box.works, told=told, locks=locks, inlet=inlet, outlet=outlet):
                found = balance(box, told, locks, inlet, outlet)
                due = oracle.balances(box.shafts, box.works, told, locks, inlet, outlet)
                self.assertEqual(found is None, due is None)
                self.assertEqual(found is None, speeds_of(box, told, locks, outlet) is None)
                found_some.add(found is None)
                if found is not None:
                    self.assertIs(type(found), tuple)
                    self.assertEqual([type(part) for part in found], [tuple, list, list])
                    self.assertTrue(all(is_fraction(part) for part in [found[0]] + found[1] + found[2]))
                    self.assertEqual((len(found[1]), len(found[2])), (len(box), len(locks)))
                    self.assertEqual(fractions(found), due)
                    self.assertIs(is_balance(box, told, locks, inlet, outlet, found), True)
        self.assertEqual(found_some, {True, False})

    def test_power_at_inlet_and_outlet(self):
        chance = random.Random(2)
        for box, ratios, locks, inlet, outlet in outlet_gears(2, 200):
            told = random_told(chance, ratios)
            speeds = speeds_of(box, told, locks, inlet)
            if speeds is not None:
                torque = Fraction(*balance(box, told, locks, inlet, outlet)[0])
                self.assertEqual(1 + torque * Fraction(*speeds[outlet]), 0)


class IsBalanceTest(JudgingTest):
    GIVEN = (SET_OF, [(5, 2)], [(3, 0)], 1, 2)

    def test_any_values(self):
        for value in any_values():
            self.assertIs(is_balance(*self.GIVEN, value), False)
            self.assertIs(is_balance(*self.GIVEN, (value, [(-1, 1)], [(5, 2)])), False)
            self.assertIs(is_balance(*self.GIVEN, ((-7, 2), value, [(5, 2)])), False)
            self.assertIs(is_balance(*self.GIVEN, ((-7, 2), [(-1, 1)], value)), False)
            self.assertIs(is_balance(*self.GIVEN, ((-7, 2), [value], [(5, 2)])), False)

    def test_nearly_right(self):
        right = ((-7, 2), [(-1, 1)], [(5, 2)])
        self.assertIs(is_balance(*self.GIVEN, right), True)
        for wrong in (list(right), right[:2], right + ([],), ((-7, 2), ((-1, 1),), [(5, 2)]), ((-7, 2), [(-1, 1)], []),
                      ((-7, 2), [], [(5, 2)]), ((-7, 2), [(-1, 1)], [(5, 2), (0, 1)]), ((7, -2), [(-1, 1)], [(5, 2)]),
                      ((-14, 4), [(-1, 1)], [(5, 2)]), ((-7, 2), [(-1, 1)], [(10, 4)]), ([-7, 2], [(-1, 1)], [(5, 2)]),
                      ((-7, 2), [(-1, 1)], [(-5, 2)]), ((7, 2), [(-1, 1)], [(5, 2)]), ((-7, 2), [(1, 1)], [(5, 2)]),
                      ((-7, 2), [(-1, True)], [(5, 2)]), ((-7, 2), [-1], [(5, 2)]), ((-7, 2), [(5, 2)], [(-1, 1)]),
                      ((-7 * 10 ** 30 - 1, 2 * 10 ** 30), [(-1, 1)], [(5, 2)])):
            self.assertIs(is_balance(*self.GIVEN, wrong), False)

    def test_by_chance(self):
        chance = random.Random(3)
        for box, ratios, locks, inlet, outlet in outlet_gears(3, 150):
            told = random_told(chance, ratios)
            torque, works, others = balance(box, told, locks, inlet, outlet)
            loads = works + others
            for at in range(len(loads)):
                changed = list(loads)
                changed[at] = (changed[at][0] + changed[at][1], changed[at][1])
                value = (torque, changed[:len(works)], changed[len(works):])
                self.assertIs(is_balance(box, told, locks, inlet, outlet, value), False)
            value = ((torque[0] + torque[1], torque[1]), works, others)
            self.assertIs(is_balance(box, told, locks, inlet, outlet, value), False)

    def test_some_of_several(self):
        """Without a drive by the outlet: each value is judged by the sums on the shafts."""
        chance = random.Random(4)
        some = [(0, 1), (1, 1), (-1, 1), (1, 2)]
        found = set()
        for box, ratios, locks in random_gears(4, 400, shafts=(1, 2)):
            told = random_told(chance, ratios)
            inlet, outlet = chance.randint(1, box.shafts), chance.randint(1, box.shafts)
            for _ in range(10):
                value = (chance.choice(some), [chance.choice(some) for _ in told], [chance.choice(some) for _ in locks])
                torque, works, others = [Fraction(*value[0])], value[1], value[2]
                sums = oracle.torques(box.shafts, box.works, told, locks, inlet, outlet, torque[0],
                                      [Fraction(*load) for load in works], [Fraction(*load) for load in others])
                self.assertIs(is_balance(box, told, locks, inlet, outlet, value), not any(sums))
                found.add(not any(sums))
        self.assertEqual(found, {True, False})


class RangeTest(JudgingTest):
    def test_by_hand(self):
        self.assertEqual(torque_range(SET_OF, [None], [(3, 0)], 1, 2), (None, (-1, 1)))
        self.assertEqual(load_range(SET_OF, [None], [(3, 0)], 1, 2, (3, 0)), ((0, 1), None))
        self.assertEqual(work_load_range(SET_OF, [None], [(3, 0)], 1, 2, 0), ((-1, 1), (-1, 1)))
        self.assertEqual(torque_range(SET_OF, [(5, 2)], [(3, 0)], 1, 2), ((-7, 2), (-7, 2)))
        self.assertEqual(load_range(SET_OF, [(5, 2)], [(3, 0)], 1, 2, (3, 0)), ((5, 2), (5, 2)))
        self.assertEqual(work_load_range(SET_OF, [(5, 2)], [(2, 1)], 1, 3, 0), ((2, 5), (2, 5)))
        self.assertEqual(torque_range(SET_OF, [None], [(2, 1)], 1, 3), ((-1, 1), (-1, 1)))
        self.assertEqual(load_range(SET_OF, [None], [(2, 1)], 1, 3, (2, 1)), ((1, 1), None))
        self.assertEqual(work_load_range(SET_OF, [None], [(2, 1)], 1, 3, 0), ((0, 1), None))
        self.assertEqual(torque_range(DOUBLE, [None], [(3, 0)], 1, 2), ((-1, 1), None))
        # Two sets with pairs of planets behind one another: no end at all.
        row = Box(4, [("double", 1, 2, 3), ("double", 2, 4, 3)])
        self.assertEqual(torque_range(row, [None, None], [(3, 0)], 1, 4), (None, None))
        self.assertEqual(torque_range(row, [(1, 1), None], [(3, 0)], 1, 4), ((0, 1), (0, 1)))

    def test_the_outlet_is_the_inlet(self):
        self.assertEqual(torque_range(SET_OF, [None], [(3, 0)], 1, 1), ((-1, 1), (-1, 1)))
        self.assertEqual(load_range(SET_OF, [None], [(3, 0)], 1, 1, (3, 0)), ((0, 1), (0, 1)))
        self.assertEqual(work_load_range(SET_OF, [None], [(3, 0)], 1, 1, 0), ((0, 1), (0, 1)))
        self.assertEqual(power_sense(SET_OF, [None], [(3, 0)], 1, 1, (3, 0)), "zero")

    def test_random_gears(self):
        chance = random.Random(5)
        shapes = set()
        for box, ratios, locks, inlet, outlet in outlet_gears(5, 700):
            far = [fractions(balance(box, told, locks, inlet, outlet)) for told in oracle.corners(ratios)]
            some = [fractions(balance(box, random_told(chance, ratios), locks, inlet, outlet)) for _ in range(4)]
            ranges = [torque_range(box, ratios, locks, inlet, outlet)]
            ranges += [work_load_range(box, ratios, locks, inlet, outlet, at) for at in range(len(box))]
            ranges += [load_range(box, ratios, locks, inlet, outlet, lock) for lock in locks]
            for at, found in enumerate(ranges):
                with self.subTest(works=box.works, ratios=ratios, locks=locks, inlet=inlet, outlet=outlet, at=at):
                    self.judge_range(found, [row[at] for row in some], [row[at] for row in far])
                    if ratios.count(None) == len(ratios) and at > 0:
                        self.assertTrue(all(end in ENDS for end in found), found)
                    shapes.add((found[0] is None, found[1] is None, found[0] == found[1]))
        self.assertEqual(len(shapes), 5)

    def test_ranges_only_shrink(self):
        chance = random.Random(6)
        for box, ratios, locks, inlet, outlet in outlet_gears(6, 200):
            told = random_told(chance, ratios)
            for lock in locks:
                low, high = load_range(box, told, locks, inlet, outlet, lock)
                self.assertEqual(low, high)
                self.assertTrue(oracle.is_within(load_range(box, ratios, locks, inlet, outlet, lock), Fraction(*low)))


class PowerTest(JudgingTest):
    def test_by_hand(self):
        # A brake has no power, for its shaft stands; a clutch gives to its first shaft what it takes from the other.
        self.assertEqual(power_sense(SET_OF, [None], [(3, 0)], 1, 2, (3, 0)), "zero")
        self.assertEqual(power_sense(SET_OF, [None], [(2, 1)], 1, 3, (2, 1)), "plus")
        self.assertEqual(power_sense(SET_OF, [None], [(3, 1)], 2, 1, (3, 1)), "minus")
        self.assertEqual(power_sense(Box(2, []), [], [(2, 1)], 1, 2, (2, 1)), "plus")
        self.assertEqual(power_sense(Box(2, []), [], [(2, 1)], 2, 1, (2, 1)), "minus")

    def test_random_gears(self):
        senses, missed = {}, 0
        for box, ratios, locks, inlet, outlet in outlet_gears(7, 1500):
            if driven(box, ratios, locks, inlet) != "all":
                continue
            rows = []
            for told in tries(ratios):
                loads = balance(box, told, locks, inlet, outlet)[2]
                speeds = speeds_of(box, told, locks, inlet)
                rows.append([Fraction(*load) * Fraction(*speeds[lock[0]]) for load, lock in zip(loads, locks)])
            for at, lock in enumerate(locks):
                with self.subTest(works=box.works, ratios=ratios, locks=locks, inlet=inlet, outlet=outlet, lock=lock):
                    sense = power_sense(box, ratios, locks, inlet, outlet, lock)
                    powers = [row[at] for row in rows]
                    self.assertTrue(oracle.fits_sense(sense, powers))
                    missed += sense == "both" and not min(powers) < 0 < max(powers)
                    senses[sense] = senses.get(sense, 0) + 1
        self.assertEqual(set(senses), {"plus", "minus", "zero", "both"})
        self.assertLess(missed, senses["both"])


class FreewheelTest(JudgingTest):
    def test_by_hand(self):
        self.assertEqual(freewheel(SET_OF, [None], [(3, 0)], [(2, 1)], 1, 2), "plus")
        self.assertEqual(freewheel(SET_OF, [None], [(2, 1)], [(3, 0)], 1, 2), "minus")
        self.assertEqual(freewheel(SET_OF, [None], [(2, 1)], [(3, 1)], 1, 2), "zero")
        self.assertEqual(freewheel(DOUBLE, [None], [(2, 1)], [(2, 0)], 1, 3), "both")
        self.assertEqual(freewheel(DOUBLE, [(1, 2)], [(2, 1)], [(2, 0)], 1, 3), "plus")
        self.assertEqual(freewheel(SET_OF, [None], [(3, 0)], [(2, 1)], 1, 1), "zero")

    def test_also_with_a_part_that_stands_twice(self):
        box = Box(4, [("planet", 3, 4, 0), ("double", 2, 4, 1)])
        self.assertEqual(freewheel(box, [None, None], [(3, 1)], [(3, 2)], 2, 1), "plus or zero")
        found = {freewheel(box, told, [(3, 1)], [(3, 2)], 2, 1) for told in tries([None, None])}
        self.assertEqual(found, {"plus", "zero"})

    def test_random_neighbours(self):
        chance = random.Random(8)
        senses, missed = {}, 0
        for box, ratios, locks, others in random_neighbours(8, 2500):
            inlet, outlet = chance.randint(1, box.shafts), chance.randint(1, box.shafts)
            drives = [driven(box, ratios, locks, inlet), driven(box, ratios, others, inlet)]
            if drives != ["all", "all"] or driven(box, ratios, locks, outlet) != "all":
                continue
            with self.subTest(works=box.works, ratios=ratios, locks=locks, others=others, inlet=inlet, outlet=outlet):
                sense = freewheel(box, ratios, locks, others, inlet, outlet)
                at = [k for k, lock in enumerate(locks) if lock not in others][0]
                first, second = locks[at]
                worths = []
                for told in tries(ratios):
                    speeds = oracle.speeds(box.shafts, box.works, told, locks, inlet)
                    later = oracle.speeds(box.shafts, box.works, told, others, inlet)
                    load = Fraction(*balance(box, told, locks, inlet, outlet)[2][at])
                    worths.append(load * (later[first] - later[second]))
                    self.assertEqual(worths[-1], later[outlet] / speeds[outlet] - 1)
                self.assertTrue(oracle.fits_sense(sense, worths))
                missed += sense == "both" and not min(worths) < 0 < max(worths)
                senses[sense] = senses.get(sense, 0) + 1
        self.assertLessEqual({"plus", "minus", "zero", "both"}, set(senses))
        self.assertLess(missed, senses["both"])

    def test_forward_gears_are_like_steps(self):
        """Where the first gear turns the outlet forward, a freewheel serves exactly if the step is plus."""
        self.assertEqual(freewheel(SET_OF, [None], [(3, 0)], [(2, 1)], 1, 2),
                         step_sense(SET_OF, [None], [(3, 0)], [(2, 1)], 1, 2))


class ErrorsTest(JudgingTest):
    def calls(self, box, ratios, locks, inlet, outlet):
        lock = locks[0] if locks else (9, 9)
        return [
            lambda: torque_range(box, ratios, locks, inlet, outlet),
            lambda: work_load_range(box, ratios, locks, inlet, outlet, 0),
            lambda: load_range(box, ratios, locks, inlet, outlet, lock),
            lambda: power_sense(box, ratios, locks, inlet, outlet, lock),
        ]

    def test_unbalanced(self):
        for locks in ([(2, 1), (3, 0)], [(1, 0), (2, 0), (3, 0)]):
            for call in self.calls(SET_OF, [None], locks, 1, 2):
                with self.assertRaises(Unbalanced):
                    call()
            with self.assertRaises(Unbalanced):
                balance(SET_OF, [(5, 2)], locks, 1, 2)
            with self.assertRaises(Unbalanced):
                is_balance(SET_OF, [(5, 2)], locks, 1, 2, None)
            for one, other in ((locks, [(3, 0)]), ([(3, 0)], locks), (locks, locks)):
                with self.assertRaises(Unbalanced):
                    freewheel(SET_OF, [None], one, other, 1, 2)
        with self.assertRaises(Unbalanced):
            torque_range(SET_OF, [None], [], 1, 2)

    def test_invalid_lock_comes_ahead_of_unbalanced(self):
        for locks in ([], [(2, 1), (3, 0)], [(3, 0)], [(1, 0)]):
            for lock in ((1, 0) if (1, 0) not in locks else (2, 0), (0, 3), (4, 0), (True, 0), None, [3, 0], "3-0", 0,
                         (3,), (3, 0, 0), (3, False), (1, 1)):
                for call in (load_range, power_sense):
                    with self.subTest(lock=lock, locks=locks), self.assertRaises(InvalidLock):
                        call(SET_OF, [None], locks, 1, 2, lock)
        with self.assertRaises(InvalidLock):
            load_range(SET_OF, [None], [(1, 0)], 1, 2, (True, 0))
        with self.assertRaises(InvalidShaft):
            load_range(SET_OF, [None], [(1, 0)], 1, 0, (True, 0))
        with self.assertRaises(InvalidIndex):
            work_load_range(SET_OF, [None], [], 1, 2, 1)

    def test_not_driven_by_the_outlet(self):
        for box, ratios, locks, inlet, outlet in ((SET_OF, [None], [(3, 0)], 1, 3), (SET_OF, [None], [(1, 0)], 2, 1),
                                                  (DOUBLE, [None], [(3, 0)], 2, 1), (DOUBLE, [(1, 1)], [(3, 0)], 2, 1)):
            for call in self.calls(box, ratios, locks, inlet, outlet):
                with self.assertRaises(NotDriven):
                    call()
        self.assertIsNone(balance(DOUBLE, [(1, 1)], [(3, 0)], 2, 1))
        with self.assertRaises(NotDriven):
            freewheel(SET_OF, [None], [(3, 0)], [(2, 1)], 1, 3)

    def test_not_driven_by_the_inlet(self):
        """That is asked for only where speeds count."""
        for call in self.calls(SET_OF, [None], [(3, 0)], 3, 1)[:3]:
            call()
        with self.assertRaises(NotDriven):
            power_sense(SET_OF, [None], [(3, 0)], 3, 1, (3, 0))
        with self.assertRaises(NotDriven):
            freewheel(SET_OF, [None], [(3, 0)], [(2, 1)], 3, 1)
        with self.assertRaises(NotDriven):
            freewheel(SET_OF, [None], [(2, 1)], [(3, 0)], 3, 1)
        # The outlet need not drive the second gear.
        self.assertEqual(freewheel(SET_OF, [None], [(2, 1)], [(3, 0)], 1, 3), "minus")

    def test_not_neighbours(self):
        for one, other in (([(3, 0)], [(3, 0)]), ([(1, 0)], [(1, 0)])):
            with self.assertRaises(NotNeighbours):
                freewheel(SET_OF, [None], one, other, 1, 3)


class GreatestTest(JudgingTest):
    def test_greatest_box(self):
        box = Box(8, [("planet", 1, 2, 3), ("planet", 1, 3, 4), ("planet", 2, 4, 5), ("planet", 1, 5, 6),
                      ("planet", 3, 6, 7), ("band", 7, 8)])
        told = [(10 ** 12 - 1, 10 ** 12 - 3 - at) for at in range(6)]
        told = [(Fraction(*ratio).numerator, Fraction(*ratio).denominator) for ratio in told]
        found = balance(box, told, [(5, 0)], 1, 8)
        self.assertTrue(is_balance(box, told, [(5, 0)], 1, 8, found))
        self.assertEqual(torque_range(box, told, [(5, 0)], 1, 8), (found[0], found[0]))
        self.assertEqual(load_range(box, told, [(5, 0)], 1, 8, (5, 0)), (found[2][0], found[2][0]))
        for at in range(6):
            self.assertEqual(work_load_range(box, told, [(5, 0)], 1, 8, at), (found[1][at], found[1][at]))
            wide = work_load_range(box, [None] * 6, [(5, 0)], 1, 8, at)
            self.assertTrue(oracle.is_within(wide, Fraction(*found[1][at])))
