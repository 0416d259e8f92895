"""Point 26: benches, sure benches, their deeds, words and twins."""

import random
import unittest

from planetlocks.boxes import Box, is_locks
from planetlocks.errors import (
    InvalidBox, InvalidFraction, InvalidIndex, InvalidLock, InvalidShaft, NotDriven, NotEngaged, NothingToUndo, Refused,
)
from planetlocks.live import Bench, SureBench
from planetlocks.ranges import speed_range
from planetlocks.trees import driven
from tests.gears import TOLD, all_locks, random_work
from tests.values import any_values

SET_OF = Box(3, [("planet", 1, 2, 3)])
DOUBLE = Box(3, [("double", 1, 2, 3)])
# Boxes with these words at the inlet 1 without any lock.
UNSURE = Box(3, [("double", 1, 2, 3), ("pair", 2, 3)])
HELD = Box(3, [("pair", 1, 2), ("band", 1, 2)])
OVER = Box(2, [("pair", 1, 2), ("band", 1, 2)])
BOTH = (Bench, SureBench)


def word_of(box, inlet, locks, ratios):
    """By the words of the document."""
    count = len(box) + len(locks)
    if count != box.shafts - 1:
        return "loose" if count < box.shafts - 1 else "over"
    return {"all": "driven", "some": "unsure", "none": "held"}[driven(box, ratios, locks, inlet)]


def snapshot(bench):
    """All that a bench shows, how often it can be undone too."""
    other = bench.twin()
    rows = []
    try:
        while True:
            rows.append((other.box, other.inlet, other.locks, other.ratios, other.word, len(other)))
            other.undo()
    except NothingToUndo:
        return rows


class BenchTest(unittest.TestCase):
    def test_at_first(self):
        for kind in BOTH:
            bench = kind(SET_OF, 1)
            self.assertEqual((bench.box, bench.inlet, bench.locks, bench.ratios), (SET_OF, 1, [], [None]))
            self.assertEqual((bench.word, len(bench)), ("loose", 0))
            self.assertEqual(kind(box=SET_OF, inlet=3).inlet, 3)

    def test_each_word(self):
        for kind in BOTH:
            words = [kind(Box(2, []), 1).word, kind(Box(2, [("pair", 1, 2)]), 1).word, kind(UNSURE, 1).word,
                     kind(Box(1, []), 1).word, kind(OVER, 1).word, kind(HELD, 1).word, kind(HELD, 3).word]
            self.assertEqual(words, ["loose", "driven", "unsure", "driven", "over", "held", "driven"])
        bench = Bench(SET_OF, 1)
        self.assertEqual([bench.on((1, 0)), bench.on((3, 0)), bench.off((1, 0)), bench.off((3, 0))],
                         ["held", "over", "driven", "loose"])
        bench = Bench(DOUBLE, 1)
        self.assertEqual([bench.on((3, 0)), bench.tell(0, (1, 1))], ["unsure", "held"])
        bench = Bench(DOUBLE, 1)
        self.assertEqual([bench.tell(0, (1, 2)), bench.on((3, 0)), bench.word], ["loose", "driven", "driven"])

    def test_on_and_off(self):
        bench = Bench(Box(4, []), 1)
        for at, pair in enumerate([(3, 0), (1, 0), (2, 1)]):
            bench.on(pair)
            self.assertEqual(len(bench), at + 1)
        self.assertEqual(bench.locks, [(1, 0), (2, 1), (3, 0)])
        self.assertEqual(bench.off((2, 1)), "loose")
        self.assertEqual(bench.locks, [(1, 0), (3, 0)])
        self.assertEqual(bench.on(pair=(4, 2)), "held")
        self.assertEqual(bench.off(pair=(4, 2)), "loose")

    def test_shift(self):
        bench = Bench(SET_OF, 1)
        bench.on((3, 0))
        self.assertEqual(bench.shift((3, 0), (2, 1)), "driven")
        self.assertEqual(bench.locks, [(2, 1)])
        self.assertEqual(bench.shift((2, 1), (1, 0)), "held")
        bench.undo()
        self.assertEqual(bench.locks, [(2, 1)])
        # A lock that is off for the moment may come on again: that is a deed, too.
        self.assertEqual(bench.shift(pair=(2, 1), other_pair=(2, 1)), "driven")
        self.assertEqual(bench.locks, [(2, 1)])
        bench.undo()
        self.assertEqual(bench.locks, [(2, 1)])
        bench.undo()
        self.assertEqual(bench.locks, [(3, 0)])

    def test_tell(self):
        box = Box(5, [("planet", 1, 2, 3), ("planet", 2, 4, 5)])
        bench = Bench(box, 1)
        self.assertEqual(bench.tell(1, (5, 2)), "loose")
        self.assertEqual(bench.ratios, [None, (5, 2)])
        self.assertEqual(bench.tell(at=0, ratio=(1, 3)), "loose")
        self.assertEqual(bench.ratios, [(1, 3), (5, 2)])

    def test_range_of(self):
        for kind in BOTH:
            bench = kind(SET_OF, 1)
            bench.on((3, 0))
            self.assertEqual([bench.range_of(shaft) for shaft in range(4)],
                             [speed_range(SET_OF, [None], [(3, 0)], 1, shaft) for shaft in range(4)])
            bench.tell(0, (5, 2))
            self.assertEqual(bench.range_of(shaft=2), ((2, 7), (2, 7)))
            bench.undo()
            self.assertEqual(bench.range_of(2), ((0, 1), (1, 1)))
            bench.off((3, 0))
            with self.assertRaises(NotDriven):
                bench.range_of(2)
            with self.assertRaises(InvalidShaft):
                bench.range_of(4)
        bench = Bench(SET_OF, 1)
        for pair in ((1, 0), (2, 0), (3, 0)):
            bench.on(pair)
            with self.assertRaises(NotDriven):
                bench.range_of(0)
        bench = Bench(DOUBLE, 1)
        bench.on((3, 0))
        with self.assertRaises(NotDriven):
            bench.range_of(1)

    def test_undo(self):
        for kind in BOTH:
            bench = kind(SET_OF, 1)
            with self.assertRaises(NothingToUndo):
                bench.undo()
            bench.on((3, 0))
            bench.tell(0, (5, 2))
            bench.shift((3, 0), (2, 1))
            bench.off((2, 1))
            shown = []
            for _ in range(4):
                shown.append((bench.word, bench.locks, bench.ratios))
                self.assertIsNone(bench.undo())
            self.assertEqual(shown, [("loose", [], [(5, 2)]), ("driven", [(2, 1)], [(5, 2)]),
                                     ("driven", [(3, 0)], [(5, 2)]), ("driven", [(3, 0)], [None])])
            self.assertEqual((bench.word, bench.locks, bench.ratios), ("loose", [], [None]))
            with self.assertRaises(NothingToUndo):
                bench.undo()
            # A ratio that was taken back can be told anew.
            self.assertEqual(bench.tell(0, (1, 1)), "loose")

    def test_by_chance(self):
        """Deeds and undoing against a list of all that was before."""
        chance = random.Random(1)
        words = set()
        for turn in range(150):
            n = chance.choice([2, 3, 4])
            box = Box(n, [random_work(chance, n) for _ in range(chance.randint(0, n))])
            inlet = chance.randint(1, n)
            kind = BOTH[turn % 2]
            bench = kind(box, inlet)
            states = [([], [None] * len(box))]
            self.assertEqual(bench.word, word_of(box, inlet, *states[0]))
            for _ in range(25):
                locks, ratios = list(states[-1][0]), list(states[-1][1])
                deed = chance.choice(["on", "off", "shift", "tell", "undo"])
                pair = chance.choice(all_locks(n))
                if deed == "undo":
                    if len(states) == 1:
                        self.assertRaises(NothingToUndo, bench.undo)
                    else:
                        self.assertIsNone(bench.undo())
                        states.pop()
                    due = None
                elif deed == "tell":
                    at, ratio = chance.randint(0, len(box)), chance.choice(TOLD)
                    if at == len(box) or ratios[at] is not None:
                        self.assertRaises(InvalidIndex, bench.tell, at, ratio)
                        continue
                    ratios[at] = ratio
                    due = (bench.tell, (at, ratio))
                elif deed == "on":
                    if pair in locks:
                        self.assertRaises(InvalidLock, bench.on, pair)
                        continue
                    locks = sorted(locks + [pair])
                    due = (bench.on, (pair,))
                else:
                    if pair not in locks:
                        self.assertRaises(NotEngaged, bench.off, pair)
                        self.assertRaises(NotEngaged, bench.shift, pair, pair)
                        continue
                    locks.remove(pair)
                    due = (bench.off, (pair,))
                    if deed == "shift":
                        other = chance.choice([one for one in all_locks(n) if one not in locks])
                        locks = sorted(locks + [other])
                        due = (bench.shift, (pair, other))
                if due is not None:
                    call, given = due
                    word = word_of(box, inlet, locks, ratios)
                    if kind is SureBench and word not in ("loose", "driven"):
                        with self.assertRaises(Refused) as caught:
                            call(*given)
                        self.assertEqual(caught.exception.reason, word)
                    else:
                        self.assertEqual(call(*given), word)
                        states.append((locks, ratios))
                    words.add((kind, word))
                self.assertEqual((bench.locks, bench.ratios), states[-1])
                self.assertEqual(bench.word, word_of(box, inlet, *states[-1]))
                self.assertEqual(len(bench), len(states[-1][0]))
                self.assertTrue(is_locks(n, bench.locks))
            self.assertEqual(len(snapshot(bench)), len(states))
        self.assertEqual(len(words), 10)

    def test_changed_lists_change_no_bench(self):
        for kind in BOTH:
            bench = kind(SET_OF, 1)
            bench.on((3, 0))
            bench.locks.append((2, 1))
            bench.ratios[0] = (1, 1)
            self.assertEqual((bench.locks, bench.ratios, len(bench)), ([(3, 0)], [None], 1))
            self.assertIsNot(bench.locks, bench.locks)

    def test_sixty_deeds(self):
        bench = Bench(Box(8, [("planet", 1, 2, 3)] * 6), 1)
        for _ in range(30):
            bench.on((5, 0))
            bench.shift((5, 0), (5, 0))
            bench.off((5, 0))
        for _ in range(90):
            bench.undo()
        with self.assertRaises(NothingToUndo):
            bench.undo()


class SureBenchTest(unittest.TestCase):
    def refuses(self, reason, bench, deed, *given):
        before = snapshot(bench)
        with self.assertRaises(Refused) as caught:
            getattr(bench, deed)(*given)
        self.assertEqual(caught.exception.reason, reason)
        self.assertIs(type(caught.exception), Refused)
        self.assertEqual(snapshot(bench), before)

    def test_is_a_bench(self):
        self.assertTrue(issubclass(SureBench, Bench))
        self.assertIs(type(SureBench(SET_OF, 1)), SureBench)

    def test_refused_deeds(self):
        bench = SureBench(SET_OF, 1)
        self.refuses("held", bench, "on", (1, 0))
        self.assertEqual(bench.on((3, 0)), "driven")
        self.refuses("over", bench, "on", (2, 0))
        self.refuses("held", bench, "shift", (3, 0), (1, 0))
        self.assertEqual(bench.shift((3, 0), (2, 0)), "driven")
        self.assertEqual(bench.off((2, 0)), "loose")
        bench = SureBench(DOUBLE, 1)
        self.refuses("unsure", bench, "on", (3, 0))
        self.assertEqual([bench.on((2, 0)), bench.tell(0, (1, 1))], ["driven", "driven"])
        self.refuses("held", bench, "shift", (2, 0), (3, 0))
        self.refuses("held", SureBench(Box(2, []), 1), "on", (1, 0))

    def test_it_begins_with_any_word(self):
        self.assertEqual([SureBench(box, 1).word for box in (UNSURE, HELD, OVER)], ["unsure", "held", "over"])
        self.refuses("over", SureBench(OVER, 1), "tell", 0, (1, 1))
        self.refuses("over", SureBench(OVER, 1), "on", (1, 0))
        self.refuses("over", SureBench(UNSURE, 1), "on", (3, 0))
        self.refuses("unsure", SureBench(UNSURE, 1), "tell", 1, (1, 1))
        self.refuses("held", SureBench(HELD, 1), "tell", 0, (1, 1))
        bench = SureBench(OVER, 1)
        with self.assertRaises(NothingToUndo):
            bench.undo()

    def test_a_told_ratio_may_make_it_sure(self):
        # With 2 for the set the sun turns as 2 + ratio of the pair by the ring, whatever that ratio is.
        bench = SureBench(UNSURE, 1)
        self.refuses("unsure", bench, "tell", 0, (1, 2))
        self.assertEqual(bench.tell(0, (2, 1)), "driven")
        bench.undo()
        self.assertEqual(bench.word, "unsure")

    def test_other_errors_come_first(self):
        bench = SureBench(SET_OF, 1)
        bench.on((3, 0))
        for error, deed, given in (
                (InvalidLock, "on", ((3, 0),)), (InvalidLock, "on", ((0, 1),)), (NotEngaged, "off", ((2, 0),)),
                (NotEngaged, "shift", ((2, 0), (1, 0))), (InvalidLock, "shift", ((3, 0), (4, 0))),
                (InvalidIndex, "tell", (1, (1, 1))), (InvalidFraction, "tell", (0, (0, 1)))):
            before = snapshot(bench)
            with self.assertRaises(error):
                getattr(bench, deed)(*given)
            self.assertEqual(snapshot(bench), before)

    def test_undo_is_not_refused(self):
        bench = SureBench(UNSURE, 1)
        bench.tell(0, (2, 1))
        self.assertIsNone(bench.undo())
        self.assertEqual((bench.word, bench.ratios), ("unsure", [None, None]))


class TwinTest(unittest.TestCase):
    def test_same_class_and_deeds(self):
        for kind in BOTH:
            bench = kind(SET_OF, 1)
            bench.on((3, 0))
            bench.tell(0, (5, 2))
            other = bench.twin()
            self.assertIs(type(other), kind)
            self.assertIsNot(other, bench)
            self.assertEqual(snapshot(other), snapshot(bench))
            other.undo()
            other.shift((3, 0), (2, 1))
            self.assertEqual((bench.locks, bench.ratios), ([(3, 0)], [(5, 2)]))
            bench.off((3, 0))
            self.assertEqual((other.locks, other.ratios), ([(2, 1)], [None]))
            other.undo()
            other.undo()
            with self.assertRaises(NothingToUndo):
                other.undo()
            self.assertEqual(len(snapshot(bench)), 4)

    def test_a_sure_twin_refuses(self):
        with self.assertRaises(Refused):
            SureBench(SET_OF, 1).twin().on((1, 0))
        self.assertEqual(Bench(SET_OF, 1).twin().on((1, 0)), "held")


class EqualTest(unittest.TestCase):
    def test_same(self):
        one, other = Bench(SET_OF, 1), SureBench(Box(3, [("planet", 1, 2, 3)]), 1)
        self.assertTrue(one == other and other == one)
        one.on((3, 0))
        self.assertFalse(one == other or other == one)
        other.on((2, 0))
        self.assertFalse(one == other)
        # How they came to it does not count.
        other.shift((2, 0), (3, 0))
        self.assertTrue(one == other and other == one)
        self.assertFalse(one != other)
        other.tell(0, (5, 2))
        self.assertFalse(one == other)
        one.tell(0, (5, 3))
        self.assertFalse(one == other)
        one.undo()
        one.tell(0, (5, 2))
        self.assertTrue(one == other)
        self.assertTrue(one == one.twin() and other == other.twin())

    def test_other_boxes_and_inlets(self):
        self.assertFalse(Bench(SET_OF, 1) == Bench(SET_OF, 2))
        self.assertFalse(Bench(SET_OF, 1) == Bench(DOUBLE, 1))
        self.assertFalse(Bench(Box(3, []), 1) == Bench(Box(4, []), 1))

    def test_any_value(self):
        for kind in BOTH:
            for value in any_values() + [(SET_OF, 1, [], [None])]:
                self.assertIs(kind(SET_OF, 1) == value, False)
                self.assertIs(kind(SET_OF, 1) != value, True)


class ErrorsTest(unittest.TestCase):
    def test_making(self):
        for kind in BOTH:
            for value in any_values() + [(3, ()), "3 planet 1 2 3"]:
                if type(value) is not Box:
                    with self.assertRaises(InvalidBox):
                        kind(value, 1)
                    with self.assertRaises(InvalidBox):
                        kind(value, None)
                if not (type(value) is int and value in (1, 2, 3)):
                    with self.assertRaises(InvalidShaft):
                        kind(SET_OF, value)

    def judge_pairs(self, call, wrong, error=InvalidLock):
        for value in wrong:
            with self.subTest(value=value), self.assertRaises(error) as caught:
                call(value)
            self.assertIs(type(caught.exception), error)

    def test_pairs(self):
        near = [(3, 0), (0, 3), (1, 1), (4, 0), (True, 0), (2, False), [2, 1], "2-1", (2,), (2, 1, 0), (2, -1),
                ((2, 1),)]
        for kind in BOTH:
            bench = kind(SET_OF, 1)
            bench.on((3, 0))
            before = snapshot(bench)
            others = [value for value in any_values() if value != (1, 0) and value != (2, 0)]
            self.judge_pairs(bench.on, near + others)
            self.judge_pairs(bench.off, near[1:] + others)
            self.judge_pairs(lambda value: bench.shift(value, (2, 1)), near[1:] + others)
            self.judge_pairs(lambda value: bench.shift((3, 0), value), near[1:] + others)
            for pair in ((1, 0), (2, 0), (2, 1), (3, 1), (3, 2)):
                self.assertRaises(NotEngaged, bench.off, pair)
                self.assertRaises(NotEngaged, bench.shift, pair, (1, 0))
            self.assertEqual(snapshot(bench), before)

    def test_two_wrong_arguments(self):
        bench = Bench(SET_OF, 1)
        bench.on((3, 0))
        bench.on((2, 1))
        self.assertRaises(InvalidLock, bench.shift, (0, 3), (2, 1))
        self.assertRaises(NotEngaged, bench.shift, (1, 0), (0, 3))
        self.assertRaises(NotEngaged, bench.shift, (1, 0), None)
        self.assertRaises(InvalidLock, bench.shift, (3, 0), (2, 1))
        self.assertRaises(InvalidLock, bench.shift, None, None)
        self.assertRaises(InvalidIndex, bench.tell, 1, (0, 1))
        self.assertRaises(InvalidFraction, bench.tell, 0, (0, 1))
        bench.tell(0, (5, 2))
        self.assertRaises(InvalidIndex, bench.tell, 0, (0, 1))
        self.assertRaises(InvalidIndex, bench.tell, 0, (5, 2))
        self.assertEqual(bench.ratios, [(5, 2)])

    def test_tell(self):
        for kind in BOTH:
            bench = kind(SET_OF, 1)
            for value in any_values() + [1, -1, True, "0", (0,)]:
                if not (type(value) is int and value == 0):
                    self.assertRaises(InvalidIndex, bench.tell, value, (1, 1))
                if not (type(value) is tuple and value == (1, 1)):
                    self.assertRaises(InvalidFraction, bench.tell, 0, value)
            for value in ((0, 1), (-5, 2), (10, 4), (5, 0), (5, True), [5, 2], 5, "5/2", (5, 2, 1)):
                self.assertRaises(InvalidFraction, bench.tell, 0, value)
            self.assertEqual(bench.ratios, [None])
            self.assertRaises(NothingToUndo, bench.undo)

    def test_range_of(self):
        for kind in BOTH:
            bench = kind(SET_OF, 1)
            for value in any_values():
                if not (type(value) is int and 0 <= value <= 3):
                    self.assertRaises(InvalidShaft, bench.range_of, value)
