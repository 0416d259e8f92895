"""What several tests judge alike."""

import unittest
from fractions import Fraction

from planetlocks.boxes import is_fraction
from tests import oracle

NEAR = Fraction(1, 10 ** 9)
FAR = 10 ** 9


class JudgingTest(unittest.TestCase):
    def judge_range(self, found, worths, far_worths):
        """Whether a range holds all these worths, and the worths at very great and small ratios come to its ends."""
        self.assertTrue(type(found) is tuple and len(found) == 2)
        self.assertTrue(all(end is None or is_fraction(end) for end in found))
        for worth in worths + far_worths:
            self.assertTrue(oracle.is_within(found, worth), (found, worth))
        for end, extreme in zip(found, (min(far_worths), max(far_worths))):
            if end is None:
                self.assertGreater(abs(extreme), FAR)
            else:
                self.assertLess(abs(extreme - Fraction(*end)), NEAR)

    def judge_told(self, ratios, found):
        """Whether all ratios are told, those that were told as they were."""
        self.assertTrue(all(is_fraction(ratio) and ratio[0] > 0 for ratio in found))
        self.assertEqual(found, [other if ratio is None else ratio for ratio, other in zip(ratios, found)])
