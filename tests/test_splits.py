"""Point 23: boxes that two inlets drive, shares, blends, and torques that are split."""

import random
from fractions import Fraction

from planetlocks.boxes import Box, is_fraction
from planetlocks.errors import InvalidLocks, InvalidRatios, InvalidShaft, NotDriven, NotTelling, Unbalanced
from planetlocks.motions import holds, motions
from planetlocks.splits import (
    blend, rest_range, share_range, shares, split_driven, sum_range, torque_split, unsplit,
)
from planetlocks.trees import tree_form
from tests import oracle
from tests.gears import random_gears, random_told, tries
from tests.judging import JudgingTest

SET_OF = Box(3, [("planet", 1, 2, 3)])
DOUBLE = Box(3, [("double", 1, 2, 3)])
ENDS = ((-1, 1), (0, 1), (1, 1), None)


def shares_by_motions(box, told, locks, inlet, other):
    """For each shaft the two shares as fractions of Python's own, or None."""
    rows = oracle.relations(box.shafts, box.works, told, locks)
    ends = [[int(k == shaft) for k in range(box.shafts + 1)] for shaft in (inlet, other)]
    found = [oracle.solution(rows + ends, [0] * len(rows) + due) for due in ([1, 0], [0, 1])]
    return None if None in found else list(zip(*found))


def random_splits(seed, count, shafts=(2, 3, 4, 5)):
    """Tuples (box, ratios, locks, inlet, other inlet)."""
    chance = random.Random(seed)
    return [(box, ratios, locks, *chance.sample(range(1, box.shafts + 1), 2))
            for box, ratios, locks in random_gears(seed, count, missing=2, shafts=shafts)]


def driven_splits(seed, count):
    return [given for given in random_splits(seed, count) if split_driven(*given) == "all"]


class SplitDrivenTest(JudgingTest):
    def test_by_hand(self):
        self.assertEqual(split_driven(SET_OF, [None], [], 1, 3), "all")
        self.assertEqual(split_driven(SET_OF, [None], [], 3, 2), "all")
        self.assertEqual(split_driven(DOUBLE, [None], [], 1, 2), "all")
        self.assertEqual(split_driven(DOUBLE, [None], [], 1, 3), "some")
        self.assertEqual(unsplit(DOUBLE, [None], [], 1, 3), [(1, 1)])
        self.assertEqual(split_driven(DOUBLE, [(1, 1)], [], 1, 3), "none")
        self.assertEqual(unsplit(DOUBLE, [(1, 1)], [], 1, 3), [(1, 1)])
        self.assertEqual(split_driven(DOUBLE, [(2, 1)], [], 1, 3), "all")
        self.assertIsNone(unsplit(DOUBLE, [(2, 1)], [], 1, 3))
        self.assertEqual(split_driven(Box(3, []), [], [(2, 1)], 1, 2), "none")
        self.assertEqual(unsplit(Box(3, []), [], [(2, 1)], 1, 2), [])
        self.assertEqual(split_driven(Box(2, []), [], [], 1, 2), "all")
        self.assertIsNone(unsplit(Box(2, []), [], [], 1, 2))

    def test_random_boxes(self):
        words = set()
        for box, ratios, locks, inlet, other in random_splits(1, 700):
            with self.subTest(works=box.works, ratios=ratios, locks=locks, inlet=inlet, other=other):
                word = split_driven(box, ratios, locks, inlet, other)
                found = [shares_by_motions(box, told, locks, inlet, other) is not None for told in tries(ratios)]
                self.assertTrue(all(found) if word == "all" else not any(found) if word == "none" else True)
                told = unsplit(box, ratios, locks, inlet, other)
                self.assertEqual(told is None, word == "all")
                if told is not None:
                    self.judge_told(ratios, told)
                    self.assertEqual(split_driven(box, told, locks, inlet, other), "none")
                    form = tree_form(box, ratios, locks, [(inlet, 0), (other, 0)])
                    self.assertEqual(form(told), (0, 1))
                    self.assertIsNone(shares_by_motions(box, told, locks, inlet, other))
                if word == "some":
                    self.assertTrue(any(found))
                words.add(word)
        self.assertEqual(words, {"all", "some", "none"})


class SharesTest(JudgingTest):
    def test_by_hand(self):
        self.assertEqual(shares(SET_OF, [(5, 2)], [], 1, 3, 2), ((2, 7), (5, 7)))
        self.assertEqual(shares(SET_OF, [(5, 2)], [], 3, 1, 2), ((5, 7), (2, 7)))
        self.assertEqual(shares(SET_OF, [(5, 2)], [], 1, 2, 3), ((-2, 5), (7, 5)))
        self.assertIsNone(shares(DOUBLE, [(1, 1)], [], 1, 3, 2))
        self.assertIsNone(shares(DOUBLE, [(1, 1)], [], 1, 3, 0))
        self.assertIsNone(shares(DOUBLE, [(1, 1)], [], 1, 3, 1))

    def test_shaft_0_and_both_inlets(self):
        self.assertEqual(shares(SET_OF, [(5, 2)], [], 1, 3, 0), ((0, 1), (0, 1)))
        self.assertEqual(shares(SET_OF, [(5, 2)], [], 1, 3, 1), ((1, 1), (0, 1)))
        self.assertEqual(shares(SET_OF, [(5, 2)], [], 1, 3, 3), ((0, 1), (1, 1)))

    def test_random_boxes(self):
        chance = random.Random(2)
        for box, ratios, locks, inlet, other in random_splits(2, 500):
            told = random_told(chance, ratios)
            due = shares_by_motions(box, told, locks, inlet, other)
            for shaft in range(box.shafts + 1):
                with self.subTest(works=box.works, told=told, locks=locks, inlet=inlet, other=other, shaft=shaft):
                    found = shares(box, told, locks, inlet, other, shaft)
                    self.assertEqual(found is None, due is None)
                    if found is not None:
                        self.assertTrue(type(found) is tuple and all(is_fraction(part) for part in found))
                        self.assertEqual(tuple(Fraction(*part) for part in found), due[shaft])

    def test_speeds_are_made_of_shares(self):
        given = (SET_OF, [(5, 2)], [])
        first = [shares(*given, 1, 3, shaft)[0] for shaft in range(4)]
        second = [shares(*given, 1, 3, shaft)[1] for shaft in range(4)]
        self.assertTrue(holds(*given, first) and holds(*given, second))
        self.assertEqual(len(motions(*given)), 2)

    def test_nothing_stands(self):
        """Without a lock or a difference of a work to the housing the shares of each shaft add up to 1."""
        box = Box(5, [("planet", 1, 2, 3), ("double", 2, 4, 5)])
        for shaft in range(1, 6):
            one, other = shares(box, [(5, 2), (1, 3)], [(3, 1)], 1, 5, shaft)
            self.assertEqual(Fraction(*one) + Fraction(*other), 1)
            self.assertEqual(sum_range(box, [None, None], [(3, 1)], 1, 4, shaft), ((1, 1), (1, 1)))


class RangeTest(JudgingTest):
    def test_by_hand(self):
        self.assertEqual(share_range(SET_OF, [None], [], 1, 3, 2), ((0, 1), (1, 1)))
        self.assertEqual(rest_range(SET_OF, [None], [], 1, 3, 2), (None, (0, 1)))
        self.assertEqual(torque_split(SET_OF, [None], [], 1, 3, 2), ((0, 1), None))
        self.assertEqual(sum_range(SET_OF, [None], [], 1, 3, 2), ((1, 1), (1, 1)))
        self.assertEqual(share_range(SET_OF, [None], [], 1, 2, 3), (None, (0, 1)))
        self.assertEqual(share_range(SET_OF, [(5, 2)], [], 1, 3, 2), ((2, 7), (2, 7)))
        self.assertEqual(rest_range(SET_OF, [(5, 2)], [], 1, 3, 2), ((-2, 5), (-2, 5)))
        self.assertEqual(torque_split(SET_OF, [(5, 2)], [], 1, 3, 2), ((5, 2), (5, 2)))
        wheels = Box(4, [("planet", 1, 2, 3), ("band", 3, 4)])
        self.assertEqual(sum_range(wheels, [None, None], [], 1, 4, 2), ((0, 1), None))
        self.assertEqual(share_range(wheels, [None, None], [], 4, 1, 2), ((0, 1), None))

    def test_shaft_0_and_both_inlets(self):
        zero, one = ((0, 1), (0, 1)), ((1, 1), (1, 1))
        for shaft, share, total in ((0, zero, zero), (1, one, one), (3, zero, one)):
            self.assertEqual(share_range(SET_OF, [None], [], 1, 3, shaft), share)
            self.assertEqual(sum_range(SET_OF, [None], [], 1, 3, shaft), total)
        self.assertEqual(rest_range(SET_OF, [None], [], 1, 3, 3), zero)
        self.assertEqual(torque_split(SET_OF, [None], [], 1, 3, 1), zero)
        for shaft in (0, 1):
            with self.assertRaises(NotTelling):
                rest_range(SET_OF, [None], [], 1, 3, shaft)
        with self.assertRaises(NotTelling):
            torque_split(SET_OF, [None], [], 1, 3, 3)
        self.assertEqual([blend(SET_OF, [None], [], 1, 3, shaft) for shaft in range(4)],
                         ["either", "between", "between", "between"])

    def test_random_boxes(self):
        chance = random.Random(3)
        counts = {"rest": 0, "torque": 0, "not": 0}
        for box, ratios, locks, inlet, other in driven_splits(3, 900):
            given = (box, ratios, locks, inlet, other)
            told = oracle.corners(ratios) + tries(ratios)[:12] + [random_told(chance, ratios)]
            rows = [shares_by_motions(box, one, locks, inlet, other) for one in told]
            corners = 2 ** ratios.count(None)
            for shaft in range(box.shafts + 1):
                firsts, seconds = zip(*[row[shaft] for row in rows])
                with self.subTest(works=box.works, ratios=ratios, locks=locks, inlet=inlet, other=other, shaft=shaft):
                    found = share_range(*given, shaft)
                    self.judge_range(found, list(firsts[corners:]), list(firsts[:corners]))
                    if ratios.count(None) == len(ratios):
                        self.assertTrue(all(end in ENDS for end in found))
                    sums = [one + two for one, two in zip(firsts, seconds)]
                    self.judge_range(sum_range(*given, shaft), sums[corners:], sums[:corners])
                    self.judge_quotient(lambda: rest_range(*given, shaft), [-one for one in firsts], seconds, corners,
                                        counts, "rest")
                    if shaft > 0:
                        self.judge_quotient(lambda: torque_split(*given, shaft), seconds, firsts, corners,
                                            counts, "torque")
        self.assertTrue(all(count > 50 for count in counts.values()), counts)

    def judge_quotient(self, call, tops, bottoms, corners, counts, name):
        try:
            found = call()
        except NotTelling:
            self.assertFalse(all(bottom > 0 for bottom in bottoms) or all(bottom < 0 for bottom in bottoms))
            counts["not"] += 1
            return
        self.assertTrue(all(bottom > 0 for bottom in bottoms) or all(bottom < 0 for bottom in bottoms))
        worths = [top / bottom for top, bottom in zip(tops, bottoms)]
        self.judge_range(found, worths[corners:], worths[:corners])
        counts[name] += 1

    def test_torques_add_up(self):
        """With the torques of point 12 at both inlets and the outlet the power is 0 in each motion."""
        chance = random.Random(4)
        for box, ratios, locks, inlet, other in driven_splits(4, 300):
            told = random_told(chance, ratios)
            for outlet in range(1, box.shafts + 1):
                one, two = shares(box, told, locks, inlet, other, outlet)
                if one[0] == 0:
                    with self.assertRaises(NotTelling):
                        torque_split(box, told, locks, inlet, other, outlet)
                    continue
                torque = Fraction(*torque_split(box, told, locks, inlet, other, outlet)[0])
                for motion in motions(box, told, locks):
                    speeds = [Fraction(*speed) for speed in motion]
                    total = speeds[inlet] + torque * speeds[other] - speeds[outlet] / Fraction(*one)
                    self.assertEqual(total, 0)

    def test_rest(self):
        chance = random.Random(5)
        for box, ratios, locks, inlet, other in driven_splits(5, 200):
            told = random_told(chance, ratios)
            for shaft in range(box.shafts + 1):
                one, two = shares(box, told, locks, inlet, other, shaft)
                if two[0] != 0:
                    low, high = rest_range(box, told, locks, inlet, other, shaft)
                    self.assertEqual(low, high)
                    self.assertEqual(Fraction(*one) + Fraction(*low) * Fraction(*two), 0)


class BlendTest(JudgingTest):
    def test_by_hand(self):
        self.assertEqual(blend(SET_OF, [None], [], 1, 3, 2), "between")
        self.assertEqual(blend(SET_OF, [None], [], 1, 2, 3), "against")
        self.assertEqual(blend(SET_OF, [None], [], 2, 1, 3), "against")
        self.assertEqual(blend(SET_OF, [(5, 2)], [], 1, 3, 2), "between")
        # Never below 0, but more than 1 together.
        wheels = Box(4, [("planet", 1, 2, 3), ("band", 3, 4)])
        self.assertEqual(blend(wheels, [None, None], [], 1, 4, 2), "either")
        self.assertEqual(blend(wheels, [(5, 2), (1, 1)], [], 1, 4, 2), "between")
        self.assertEqual(blend(DOUBLE, [None], [], 1, 2, 3), "either")
        self.assertEqual(blend(DOUBLE, [(1, 2)], [], 1, 2, 3), "against")
        self.assertEqual(blend(DOUBLE, [(1, 1)], [], 1, 2, 3), "between")
        # Both are below 0.
        box = Box(5, [("planet", 1, 2, 3), ("pair", 2, 4), ("pair", 4, 5)])
        self.assertEqual(blend(box, [None] * 3, [], 1, 3, 4), "either")
        self.assertEqual(blend(box, [None] * 3, [], 1, 3, 5), "either")

    def test_random_boxes(self):
        words = {}
        for box, ratios, locks, inlet, other in driven_splits(6, 500):
            told_rows = oracle.corners(ratios) + tries(ratios)[:40]
            rows = [shares_by_motions(box, told, locks, inlet, other) for told in told_rows]
            for shaft in range(box.shafts + 1):
                pairs = [row[shaft] for row in rows]
                if all(one >= 0 and two >= 0 and one + two == 1 for one, two in pairs):
                    due = "between"
                elif all(one > 0 > two for one, two in pairs) or all(two > 0 > one for one, two in pairs):
                    due = "against"
                else:
                    due = "either"
                with self.subTest(works=box.works, ratios=ratios, locks=locks, inlet=inlet, other=other, shaft=shaft):
                    self.assertEqual(blend(box, ratios, locks, inlet, other, shaft), due)
                words[due] = words.get(due, 0) + 1
        self.assertTrue(all(words[word] > 3 for word in ("between", "against", "either")), words)


class ErrorsTest(JudgingTest):
    def calls(self, box, ratios, locks, inlet, other, shaft=1):
        return [
            lambda: share_range(box, ratios, locks, inlet, other, shaft),
            lambda: sum_range(box, ratios, locks, inlet, other, shaft),
            lambda: blend(box, ratios, locks, inlet, other, shaft),
            lambda: rest_range(box, ratios, locks, inlet, other, shaft),
            lambda: torque_split(box, ratios, locks, inlet, other, shaft),
        ]

    def test_unbalanced(self):
        for locks in ([(3, 0)], [(1, 0), (2, 0)]):
            calls = self.calls(SET_OF, [None], locks, 1, 3)
            calls += [lambda: split_driven(SET_OF, [None], locks, 1, 3), lambda: unsplit(SET_OF, [None], locks, 1, 3),
                      lambda: shares(SET_OF, [(1, 1)], locks, 1, 3, 2)]
            for at, call in enumerate(calls):
                with self.subTest(at=at, locks=locks), self.assertRaises(Unbalanced):
                    call()
        with self.assertRaises(Unbalanced):
            split_driven(Box(3, []), [], [], 1, 2)

    def test_not_driven(self):
        for ratios in ([None], [(1, 1)]):
            for call in self.calls(DOUBLE, ratios, [], 1, 3):
                with self.assertRaises(NotDriven):
                    call()
        # Not driven comes ahead of what does not tell.
        with self.assertRaises(NotDriven):
            rest_range(DOUBLE, [None], [], 1, 3, 1)
        with self.assertRaises(NotDriven):
            torque_split(DOUBLE, [None], [], 1, 3, 3)

    def test_not_telling(self):
        with self.assertRaises(NotTelling):
            rest_range(DOUBLE, [None], [], 2, 1, 0)
        # The share of the carrier in the speed of the ring has either sign, that of the sun has one.
        with self.assertRaises(NotTelling):
            rest_range(DOUBLE, [None], [], 1, 2, 3)
        self.assertEqual(torque_split(DOUBLE, [None], [], 1, 2, 3), ((-1, 1), None))
        with self.assertRaises(NotTelling):
            torque_split(DOUBLE, [None], [], 2, 1, 3)
        self.assertEqual(torque_split(DOUBLE, [(2, 1)], [], 2, 1, 3), ((1, 1), (1, 1)))

    def test_parameters_come_first(self):
        for given, error in (((SET_OF, [None], [(3, 0)], 1, 1), InvalidShaft),
                             ((SET_OF, [None], [(3, 0)], 0, 1), InvalidShaft),
                             ((SET_OF, [None], [(3, 0)], 1, 4), InvalidShaft),
                             ((SET_OF, [None], [(0, 1)], 1, 1), InvalidLocks),
                             ((SET_OF, [], [(0, 1)], 1, 1), InvalidRatios)):
            for call in self.calls(*given):
                with self.assertRaises(error):
                    call()
            for call in (split_driven, unsplit):
                with self.assertRaises(error):
                    call(*given)
        for call in self.calls(SET_OF, [None], [(3, 0)], 1, 3, 4) + self.calls(SET_OF, [None], [], 1, 3, -1):
            with self.assertRaises(InvalidShaft):
                call()
        with self.assertRaises(InvalidShaft):
            torque_split(SET_OF, [None], [(3, 0)], 1, 3, 0)
        with self.assertRaises(InvalidShaft):
            shares(SET_OF, [(1, 1)], [(3, 0)], 1, 3, 4)


class GreatestTest(JudgingTest):
    def test_greatest_box(self):
        box = Box(8, [("planet", 1, 2, 3), ("planet", 1, 3, 4), ("planet", 2, 4, 5), ("planet", 1, 5, 6),
                      ("planet", 3, 6, 7), ("band", 7, 8)])
        told = [(10 ** 12 - 1, 10 ** 12)] * 6
        self.assertEqual(split_driven(box, [None] * 6, [], 1, 3), "all")
        for shaft in range(9):
            one, two = shares(box, told, [], 1, 3, shaft)
            self.assertEqual(share_range(box, told, [], 1, 3, shaft), (one, one))
            self.assertTrue(oracle.is_within(share_range(box, [None] * 6, [], 1, 3, shaft), Fraction(*one)))
