"""Point 18: tree forms, choices, gears that are driven, and boxes that are tied."""

import random
import unittest
from fractions import Fraction

from planetlocks.boxes import Box, first_difference, is_ratios, second_difference
from planetlocks.errors import InvalidDifferences, InvalidLocks, InvalidRatios, InvalidShaft, Unbalanced
from planetlocks.forms import Form
from planetlocks.motions import freedom, speeds_of
from planetlocks.trees import choices_of, driven, tied, tree_form, undriven, untied
from planetlocks.walks import gear_ways, slip_table
from planetlocks.webs import tree_sign
from tests import oracle
from tests.gears import random_gears, random_told

SET_OF = Box(3, [("planet", 1, 2, 3)])
# Sun 1 drives two sets side by side that work against each other; shaft 4 is driven by both.
RIVALS = Box(4, [("planet", 1, 2, 3), ("planet", 2, 4, 3), ("pair", 1, 4)])
EACH_KIND = [("planet", 1, 2, 3), ("double", 1, 2, 3), ("pair", 1, 2), ("band", 1, 2)]


def random_extra(chance, shafts, count):
    return [tuple(chance.sample(range(shafts + 1), 2)) for _ in range(count)]


class TreeFormTest(unittest.TestCase):
    def test_example(self):
        self.assertEqual(tree_form(SET_OF, [None], [(3, 0)], [(1, 0)]).terms, [((), -1), ((0,), -1)])
        self.assertEqual(tree_form(SET_OF, [(5, 2)], [(3, 0)], [(1, 0)]).terms, [((), -7)])
        self.assertEqual(choices_of(SET_OF, [(3, 0)], [(2, 0)]), [((0,), -1)])

    def test_each_kind(self):
        forms = [tree_form(Box(3, [work]), [None], [(3, 0)], [(2, 0)]).terms for work in EACH_KIND]
        self.assertEqual(forms, [[((), -1)], [((), -1)], [((), -1)], [((), -1)]])
        forms = [tree_form(Box(3, [work]), [None], [(3, 0)], [(1, 0)]).terms for work in EACH_KIND]
        self.assertEqual(forms, [[((), -1), ((0,), -1)], [((), -1), ((0,), 1)], [((0,), 1)], [((0,), -1)]])
        forms = [tree_form(Box(3, [work]), [(2, 7)], [(3, 0)], [(1, 0)]).terms for work in EACH_KIND]
        self.assertEqual(forms, [[((), -9)], [((), -5)], [((), 2)], [((), -2)]])

    def test_like_the_words(self):
        chance = random.Random(1)
        for missing in (0, 1, 2):
            for box, ratios, locks in random_gears(missing, 120, missing=missing):
                extra = random_extra(chance, box.shafts, missing)
                works = list(box.works)
                with self.subTest(works=works, ratios=ratios, locks=locks, extra=extra):
                    found = tree_form(box, ratios, locks, extra)
                    self.assertIs(type(found), Form)
                    self.assertEqual(found.terms, oracle.tree_terms(box.shafts, works, ratios, locks, extra))
                    self.assertEqual(choices_of(box, locks, extra), oracle.choices(box.shafts, works, locks, extra))

    def test_told_ratios_give_a_determinant(self):
        chance = random.Random(2)
        for box, ratios, locks in random_gears(3, 150):
            extra = random_extra(chance, box.shafts, 1)
            told = random_told(chance, ratios)
            rows = []
            for work, (p, q) in zip(box.works, told):
                ends = [oracle.difference_row(box.shafts, one) for one in oracle.differences_of(work)]
                rows.append([q * a + oracle.sense_of(work) * p * b for a, b in zip(*ends)])
            rows += [oracle.difference_row(box.shafts, one) for one in locks + extra]
            due = oracle.determinant([row[1:] for row in rows])
            self.assertEqual(tree_form(box, told, locks, extra)([]), (due, 1))
            factor = 1
            for before, (_, q) in zip(ratios, told):
                factor *= q if before is None else 1
            self.assertEqual(Fraction(*tree_form(box, ratios, locks, extra)(told)), Fraction(due, factor))

    def test_speeds_come_from_tree_forms(self):
        chance = random.Random(3)
        for box, ratios, locks in random_gears(4, 150):
            told = random_told(chance, ratios)
            for inlet in range(1, box.shafts + 1):
                drive = Fraction(*tree_form(box, ratios, locks, [(inlet, 0)])(told))
                speeds = speeds_of(box, told, locks, inlet)
                self.assertEqual(speeds is None, drive == 0)
                for shaft in range(1, box.shafts + 1) if speeds else []:
                    form = tree_form(box, ratios, locks, [(shaft, 0)])
                    self.assertEqual(Fraction(*form(told)) / drive, Fraction(*speeds[shaft]))

    def test_no_works_no_locks_no_extra(self):
        self.assertEqual(tree_form(Box(2, []), [], [(1, 0), (2, 1)], []).terms, [((), 1)])
        self.assertEqual(tree_form(Box(2, []), [], [], [(0, 1), (2, 1)]).terms, [((), -1)])
        self.assertEqual(tree_form(Box(2, []), [], [], [(1, 2), (2, 1)]).terms, [])
        self.assertEqual(tree_form(Box(1, [("planet", 0, 1, 0)][:0]), [], [(1, 0)], []).terms, [((), 1)])
        self.assertEqual(choices_of(Box(2, []), [(1, 0), (2, 1)], []), [((), 1)])
        self.assertEqual(choices_of(Box(2, []), [], [(1, 2), (2, 1)]), [])
        both = Box(2, [("pair", 1, 2), ("band", 2, 1)])
        self.assertEqual(choices_of(both, [], []), [((0, 0), 1), ((1, 1), -1)])
        self.assertEqual(tree_form(both, [None, None], [], []).terms, [((), 1), ((0, 1), 1)])

    def test_unbalanced(self):
        for locks, extra in (([], []), ([(3, 0)], []), ([], [(1, 0)]), ([(2, 0), (3, 0)], [(1, 0)]),
                             ([(3, 0)], [(1, 0), (2, 0)])):
            with self.subTest(locks=locks, extra=extra):
                with self.assertRaises(Unbalanced):
                    tree_form(SET_OF, [None], locks, extra)
                with self.assertRaises(Unbalanced):
                    choices_of(SET_OF, locks, extra)

    def test_parameters_come_before_unbalanced(self):
        with self.assertRaises(InvalidRatios):
            tree_form(SET_OF, [], [], [])
        with self.assertRaises(InvalidLocks):
            choices_of(SET_OF, [(0, 3)], [])
        with self.assertRaises(InvalidDifferences):
            choices_of(SET_OF, [], [(4, 0)])
        with self.assertRaises(InvalidDifferences):
            tree_form(SET_OF, [None], [], ((1, 0),))

    def test_greatest_box(self):
        box = Box(8, [("planet", 1, 2, 3), ("double", 3, 4, 5), ("planet", 5, 6, 7), ("double", 7, 8, 1),
                      ("pair", 2, 6), ("band", 4, 8)])
        told = [(10 ** 12 - 1, 10 ** 12 - 3)] * 6
        signed = choices_of(box, [(8, 0)], [(1, 0)])
        for choice, sign in signed:
            pairs = [(first_difference(box, at), second_difference(box, at))[choice[at]] for at in range(6)]
            self.assertEqual(tree_sign(8, pairs + [(8, 0), (1, 0)]), sign)
        self.assertEqual(signed, oracle_choices_of(box, [(8, 0)], [(1, 0)]))
        form = tree_form(box, [None] * 6, [(8, 0)], [(1, 0)])
        worth = Fraction(*form(told))
        self.assertEqual(tree_form(box, told, [(8, 0)], [(1, 0)])([]), (int(worth * told[0][1] ** 6), 1))

    def test_boxes_side_by_side(self):
        box = SET_OF + SET_OF
        one = tree_form(SET_OF, [None], [(3, 0)], [(1, 0)])
        self.assertEqual(len(tree_form(box, [None, None], [(3, 0), (6, 0)], [(1, 0), (4, 0)])), len(one) ** 2)


def oracle_choices_of(box, locks, extra):
    """As oracle.choices, but with the signs of webs: a slow determinant of 8 rows takes too long."""
    found = []
    for mask in range(2 ** len(box)):
        choice = tuple(mask >> at & 1 for at in reversed(range(len(box))))
        row = [oracle.differences_of(work)[pick] for work, pick in zip(box.works, choice)] + locks + extra
        if oracle.is_tree(box.shafts, row):
            found.append((choice, tree_sign(box.shafts, row)))
    return found


class DrivenTest(unittest.TestCase):
    def test_example(self):
        self.assertEqual(driven(SET_OF, [None], [(3, 0)], 1), "all")
        self.assertEqual(driven(Box(2, [("planet", 1, 2, 0)]), [None], [], 2), "all")

    def test_by_hand(self):
        self.assertEqual(driven(SET_OF, [None], [(2, 1)], 3), "all")
        self.assertEqual(driven(SET_OF, [None], [(1, 0)], 1), "none")
        self.assertEqual(undriven(SET_OF, [None], [(1, 0)], 1), [(1, 1)])
        self.assertIsNone(undriven(SET_OF, [None], [(2, 1)], 3))
        double = Box(3, [("double", 1, 2, 3)])
        self.assertEqual(driven(double, [None], [(3, 0)], 1), "some")
        self.assertEqual(undriven(double, [None], [(3, 0)], 1), [(1, 1)])

    def test_told_ratios_at_which_it_is_not_driven(self):
        double = Box(3, [("double", 1, 2, 3)])
        self.assertEqual(driven(double, [(1, 1)], [(3, 0)], 1), "none")
        self.assertEqual(driven(double, [(1, 2)], [(3, 0)], 1), "all")
        self.assertEqual(driven(double, [(2, 1)], [(3, 0)], 1), "all")
        self.assertEqual(undriven(double, [(1, 1)], [(3, 0)], 1), [(1, 1)])
        self.assertIsNone(undriven(double, [(1, 2)], [(3, 0)], 1))
        self.assertEqual(driven(double, [(1, 1)], [(3, 0)], 2), "all")

    def test_no_works_no_locks(self):
        self.assertEqual(driven(Box(1, []), [], [], 1), "all")
        self.assertIsNone(undriven(Box(1, []), [], [], 1))
        self.assertEqual(driven(Box(2, []), [], [(1, 0)], 1), "none")
        self.assertEqual(undriven(Box(2, []), [], [(1, 0)], 1), [])
        self.assertEqual(driven(Box(2, []), [], [(1, 0)], 2), "all")

    def test_random_gears(self):
        chance = random.Random(5)
        seen = set()
        for box, ratios, locks in random_gears(6, 400):
            inlet = chance.randint(1, box.shafts)
            with self.subTest(works=box.works, ratios=ratios, locks=locks, inlet=inlet):
                word = driven(box, ratios, locks, inlet)
                found = undriven(box, ratios, locks, inlet)
                self.judge(ratios, found, word)
                if found is not None:
                    self.assertIsNone(speeds_of(box, found, locks, inlet))
                for told in oracle.corners(ratios) + [random_told(chance, ratios)]:
                    if speeds_of(box, told, locks, inlet) is None:
                        self.assertNotEqual(word, "all")
                    else:
                        self.assertNotEqual(word, "none")
                seen.add((word, None in ratios))
        self.assertEqual(seen, {("all", True), ("all", False), ("some", True), ("none", True), ("none", False)})

    def judge(self, ratios, found, word):
        """Whether these are ratios, those that were told as they were, and None just with the word all."""
        self.assertIn(word, ("all", "some", "none"))
        self.assertEqual(found is None, word == "all")
        if found is not None:
            self.assertTrue(is_ratios(Box(2, [("pair", 1, 2)] * len(ratios)), found))
            self.assertNotIn(None, found)
            kept = [new if old is None else old for old, new in zip(ratios, found)]
            self.assertEqual(found, kept)

    def test_random_tied_boxes(self):
        chance = random.Random(7)
        seen = set()
        for box, ratios, locks in random_gears(8, 400, missing=0):
            with self.subTest(works=box.works, ratios=ratios, locks=locks):
                word = tied(box, ratios, locks)
                found = untied(box, ratios, locks)
                self.judge(ratios, found, word)
                if found is not None:
                    self.assertGreater(freedom(box, found, locks), 0)
                for told in oracle.corners(ratios) + [random_told(chance, ratios)]:
                    self.assertNotEqual(word, "all" if freedom(box, told, locks) else "none")
                seen.add((word, None in ratios))
        self.assertEqual(seen, {("all", True), ("all", False), ("some", True), ("none", True), ("none", False)})

    def test_tied_by_hand(self):
        self.assertEqual(tied(SET_OF, [None], [(2, 1), (3, 0)]), "all")
        self.assertIsNone(untied(SET_OF, [None], [(2, 1), (3, 0)]))
        self.assertEqual(tied(SET_OF, [None], [(2, 1), (3, 2)]), "none")
        self.assertEqual(untied(SET_OF, [(5, 2)], [(2, 1), (3, 2)]), [(5, 2)])
        double = Box(3, [("double", 1, 2, 3)])
        self.assertEqual(tied(double, [None], [(2, 0), (3, 1)]), "some")
        self.assertEqual(untied(double, [None], [(2, 0), (3, 1)]), [(1, 1)])
        self.assertEqual(tied(double, [(1, 1)], [(2, 0), (3, 1)]), "none")
        self.assertEqual(tied(double, [(3, 1)], [(2, 0), (3, 1)]), "all")
        self.assertEqual(tied(Box(1, []), [], [(1, 0)]), "all")

    def test_unbalanced(self):
        for locks in ([], [(1, 0), (3, 0)]):
            for call in (driven, undriven):
                with self.subTest(locks=locks, call=call.__name__), self.assertRaises(Unbalanced):
                    call(SET_OF, [None], locks, 1)
        for locks in ([(3, 0)], [(1, 0), (2, 0), (3, 0)]):
            for call in (tied, untied):
                with self.subTest(locks=locks, call=call.__name__), self.assertRaises(Unbalanced):
                    call(SET_OF, [None], locks)

    def test_parameters_come_before_unbalanced(self):
        for call in (driven, undriven):
            with self.assertRaises(InvalidShaft):
                call(SET_OF, [None], [], 0)
            with self.assertRaises(InvalidLocks):
                call(SET_OF, [None], [None], 0)
        for call in (tied, untied):
            with self.assertRaises(InvalidRatios):
                call(SET_OF, [(1, 1), None], [])
            with self.assertRaises(InvalidLocks):
                call(SET_OF, [None], [None])

    def test_returned_ratios_may_be_passed(self):
        for box, ratios, locks in random_gears(9, 60):
            found = undriven(box, ratios, locks, 1)
            if found is not None:
                self.assertEqual(driven(box, found, locks, 1), "none")
                self.assertEqual(undriven(box, found, locks, 1), found)
                self.assertIsNot(undriven(box, found, locks, 1), found)


class SpeedFormTest(unittest.TestCase):
    def test_shaft_0(self):
        ways = gear_ways(SET_OF, [None], [(3, 0)])
        self.assertEqual(slip_table(ways, 0, 0), {})
        self.assertEqual(slip_table(ways, 3, 0), {})
        self.assertEqual(slip_table(ways, 1, 0), dict(tree_form(SET_OF, [None], [(3, 0)], [(1, 0)]).terms))

    def test_rivals(self):
        form = tree_form(RIVALS, [None] * 3, [], [(1, 0)])
        self.assertEqual(form.terms, oracle.tree_terms(4, list(RIVALS.works), [None] * 3, [], [(1, 0)]))
