"""How much is reckoned for the greatest boxes, counted in calls, so that it is the same on each machine.

One row of questions asks the same gear again and again; an answer may not take more calls than a walk through the
choices needs, and nothing may be kept between two calls.
"""

import sys
import unittest

from planetlocks.boxes import Box
from planetlocks.console import Console
from planetlocks.loads import freewheel, load_range, power_sense, torque_range, work_load_range
from planetlocks.plans import levels
from planetlocks.ranges import compared, ratios_for, same_speeds, slip_range, speed_range, sure_order
from planetlocks.splits import blend, share_range
from planetlocks.steps import ladder, step_forms, step_sense
from planetlocks.told import depends, look_plan
from planetlocks.trees import driven, tree_form, undriven

# The box of which it was told that its answers took long.
BOX = Box(8, [("planet", 1, 2, 3), ("planet", 2, 4, 5), ("planet", 4, 6, 7), ("planet", 7, 8, 1), ("pair", 3, 5),
              ("pair", 6, 8)])
NONE = [None] * 6
GEAR = (BOX, NONE, [(3, 0)], 1)
# Five works, so that more gears come together.
LESS = Box(8, list(BOX.works[:5]))
OFFERED = [(1, 0), (2, 1), (3, 0), (6, 0), (8, 6), (8, 7)]


def calls_of(call):
    """How many calls of functions, Python's own too, this one makes."""
    total = 0

    def count(_, event, __):
        nonlocal total
        total += event in ("call", "c_call")
    sys.setprofile(count)
    try:
        call()
    finally:
        sys.setprofile(None)
    return total


class EffortTest(unittest.TestCase):
    def judge(self, most, call):
        first = calls_of(call)
        self.assertLess(first, most)
        # The same work each time: no answer hangs on what was asked before.
        self.assertEqual(calls_of(call), first)

    def test_the_told_calls(self):
        self.judge(8000, lambda: sure_order(*GEAR))
        self.judge(2000, lambda: same_speeds(*GEAR))

    def test_one_gear(self):
        told = [(5, 2), (1, 3), (7, 1), (2, 9), (1, 1), (3, 4)]
        for ratios in (NONE, told, told[:3] + NONE[3:]):
            gear = (BOX, ratios) + GEAR[2:]
            self.judge(2000, lambda: driven(*gear))
            self.judge(2000, lambda: undriven(*gear))
            self.judge(2000, lambda: tree_form(*gear[:3], [(1, 0)]))
            for shaft in range(9):
                self.judge(2000, lambda: speed_range(*gear, shaft))
                self.judge(2000, lambda: slip_range(*gear, shaft, 5))
                self.judge(2000, lambda: compared(*gear, shaft, 5))
                self.judge(4000, lambda: ratios_for(*gear, shaft, (1, 2)))
                self.judge(4000, lambda: depends(*gear, shaft))

    def test_loads_steps_and_splits(self):
        self.assertEqual(driven(BOX, NONE, [(3, 0)], 2), "all")
        self.judge(3000, lambda: torque_range(*GEAR, 2))
        self.judge(3000, lambda: load_range(*GEAR, 2, (3, 0)))
        self.judge(3000, lambda: work_load_range(*GEAR, 2, 0))
        self.judge(8000, lambda: power_sense(*GEAR, 2, (3, 0)))
        for other in ((2, 1), (8, 7)):
            given = (BOX, NONE, [(3, 0)], [other], 1, 2)
            self.judge(3000, lambda: step_forms(*given))
            if driven(BOX, NONE, [other], 1) == "all":
                self.judge(8000, lambda: step_sense(*given))
                self.judge(8000, lambda: freewheel(*given))
        for shaft in range(9):
            self.judge(3000, lambda: share_range(BOX, NONE, [], 1, 3, shaft))
            self.judge(3000, lambda: blend(BOX, NONE, [], 1, 3, shaft))

    def test_many_gears(self):
        gears = [[lock] for lock in ((3, 0), (1, 0), (2, 1), (8, 7), (5, 0), (6, 2), (4, 1), (7, 0))]
        gears = [gear for gear in gears if driven(BOX, NONE, gear, 1) == "all"]
        self.assertGreater(len(gears), 2)
        self.judge(40000, lambda: look_plan(BOX, NONE, gears, 1))
        self.judge(40000, lambda: ladder(BOX, NONE, gears, 1, 2))
        self.judge(80000, lambda: levels(LESS, NONE[:5], OFFERED, 1, 2))

    def test_a_console(self):
        console = Console()
        console.execute("bench 1 8 planet 1 2 3 planet 2 4 5 planet 4 6 7 planet 7 8 1 pair 3 5 pair 6 8")
        console.execute("on 3-0")
        self.judge(3000, lambda: console.execute("range 4"))
        self.judge(3000, lambda: console.execute("faster 2 4"))
