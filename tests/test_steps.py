"""Point 21: steps from a gear to a neighbour, their forms, their senses, and ladders."""

import random
from fractions import Fraction
from itertools import combinations

from planetlocks.boxes import Box, is_fraction
from planetlocks.errors import InvalidGears, InvalidLocks, InvalidShaft, NotDriven, NotNeighbours, Unbalanced
from planetlocks.forms import Form, at_zero, sense_of
from planetlocks.parts import product_sense
from planetlocks.steps import changed, ladder, step_at, step_forms, step_sense
from planetlocks.trees import driven, tree_form
from tests import oracle
from tests.gears import random_neighbours, random_told, tries
from tests.judging import JudgingTest

SET_OF = Box(3, [("planet", 1, 2, 3)])
DOUBLE = Box(3, [("double", 1, 2, 3)])
# Two sets behind one another, the ring of both held or not.
ROW = Box(5, [("planet", 1, 2, 3), ("planet", 2, 4, 5)])
SENSES = {"plus": 1, "zero": 0, "minus": -1}


def driven_neighbours(seed, count):
    """Tuples (box, ratios, locks, other locks, inlet, outlet), both gears driven for all ratios."""
    chance = random.Random(seed)
    found = []
    for box, ratios, locks, others in random_neighbours(seed, count):
        inlet, outlet = chance.randint(1, box.shafts), chance.randint(1, box.shafts)
        if driven(box, ratios, locks, inlet) == driven(box, ratios, others, inlet) == "all":
            found.append((box, ratios, locks, others, inlet, outlet))
    return found


def step_by_motions(box, told, locks, others, inlet, outlet):
    one = oracle.speeds(box.shafts, box.works, told, locks, inlet)
    other = oracle.speeds(box.shafts, box.works, told, others, inlet)
    return None if one is None or other is None else other[outlet] - one[outlet]


class ChangedTest(JudgingTest):
    def test_by_hand(self):
        self.assertEqual(changed(3, [(3, 0)], [(2, 1)]), ((3, 0), (2, 1)))
        self.assertEqual(changed(3, [(2, 1)], [(3, 0)]), ((2, 1), (3, 0)))
        self.assertEqual(changed(4, [(1, 0), (3, 0)], [(3, 0), (4, 0)]), ((1, 0), (4, 0)))
        self.assertEqual(changed(4, [(1, 0), (2, 1), (3, 0)], [(1, 0), (3, 0), (3, 1)]), ((2, 1), (3, 1)))

    def test_no_neighbours(self):
        rows = [([], []), ([(1, 0)], [(1, 0)]), ([(1, 0)], []), ([], [(1, 0)]), ([(1, 0)], [(1, 0), (2, 0)]),
                ([(1, 0), (2, 0)], [(1, 0)]), ([(1, 0), (2, 0)], [(2, 1), (3, 0)]), ([(1, 0), (2, 0)], [(3, 0)]),
                ([(1, 0), (2, 0), (3, 0)], [(1, 0), (2, 1), (3, 2)]), ([(1, 0), (2, 0)], [(1, 0), (2, 0)])]
        for one, other in rows:
            with self.subTest(one=one, other=other), self.assertRaises(NotNeighbours):
                changed(3, one, other)

    def test_like_the_words(self):
        locks = [(1, 0), (2, 0), (2, 1), (3, 0)]
        gears = [list(gear) for size in range(4) for gear in combinations(locks, size)]
        for one in gears:
            for other in gears:
                common = [lock for lock in one if lock in other]
                if len(one) == len(other) == len(common) + 1:
                    lock, new = changed(3, one, other)
                    self.assertEqual(sorted(common + [lock]), one)
                    self.assertEqual(sorted(common + [new]), other)
                else:
                    with self.assertRaises(NotNeighbours):
                        changed(3, one, other)


class FormsTest(JudgingTest):
    def test_by_hand(self):
        one, other = step_forms(SET_OF, [None], [(3, 0)], [(2, 1)], 1, 2)
        self.assertEqual([one.terms, other.terms], [tree_form(SET_OF, [None], [], [(2, 1), (3, 0)]).terms,
                                                    tree_form(SET_OF, [None], [], [(2, 0), (1, 0)]).terms])
        self.assertEqual(step_forms(SET_OF, [None], [(3, 0)], [(2, 1)], 2, 2)[1], Form([]))

    def test_like_tree_forms(self):
        chance = random.Random(1)
        for box, ratios, locks, others in random_neighbours(1, 300):
            inlet, outlet = chance.randint(1, box.shafts), chance.randint(1, box.shafts)
            common = [lock for lock in locks if lock in others]
            lock, new = changed(box.shafts, locks, others)
            with self.subTest(works=box.works, ratios=ratios, locks=locks, others=others, inlet=inlet, outlet=outlet):
                found = step_forms(box, ratios, locks, others, inlet, outlet)
                self.assertIs(type(found), tuple)
                self.assertEqual([type(form) for form in found], [Form, Form])
                works = list(box.works)
                self.assertEqual(found[0].terms, oracle.tree_terms(box.shafts, works, ratios, common, [new, lock]))
                self.assertEqual(found[0], tree_form(box, ratios, common, [new, lock]))
                turning = oracle.tree_terms(box.shafts, works, ratios, common, [(outlet, 0), (inlet, 0)])
                self.assertEqual(found[1].terms, turning if inlet != outlet else [])

    def test_also_where_no_gear_is_driven(self):
        self.assertEqual(step_forms(Box(3, []), [], [(1, 0), (2, 0)], [(1, 0), (2, 1)], 1, 2),
                         (Form([]), tree_form(Box(3, []), [], [(1, 0)], [(2, 0), (1, 0)])))

    def test_the_step_is_their_product_by_the_drive_forms(self):
        chance = random.Random(2)
        signs = set()
        for box, ratios, locks, others, inlet, outlet in driven_neighbours(2, 400):
            told = random_told(chance, ratios)
            common = [lock for lock in locks if lock in others]
            lock, new = changed(box.shafts, locks, others)
            one, other = step_forms(box, ratios, locks, others, inlet, outlet)
            drives = [tree_form(box, ratios, common, [own, (inlet, 0)]) for own in (lock, new)]
            worths = [Fraction(*form(told)) for form in [one, other] + drives]
            step = worths[0] * worths[1] / (worths[2] * worths[3])
            self.assertEqual(step, step_by_motions(box, told, locks, others, inlet, outlet))
            signs.add((step > 0) - (step < 0))
        self.assertEqual(signs, {-1, 0, 1})


class StepTest(JudgingTest):
    def test_by_hand(self):
        self.assertEqual(step_sense(SET_OF, [None], [(3, 0)], [(2, 1)], 1, 2), "plus")
        self.assertEqual(step_sense(SET_OF, [None], [(2, 1)], [(3, 0)], 1, 2), "minus")
        self.assertEqual(step_sense(SET_OF, [None], [(3, 0)], [(2, 1)], 1, 1), "zero")
        self.assertEqual(step_sense(SET_OF, [None], [(2, 1)], [(3, 1)], 1, 3), "zero")
        # The ring runs backward with the carrier held and with the carrier, and faster, where it is the other way.
        self.assertEqual(step_sense(SET_OF, [None], [(2, 0)], [(2, 1)], 1, 3), "plus")
        self.assertEqual(step_sense(DOUBLE, [None], [(2, 0)], [(2, 1)], 1, 3), "both")
        self.assertEqual(step_sense(DOUBLE, [(1, 2)], [(2, 0)], [(2, 1)], 1, 3), "minus")
        self.assertEqual(step_sense(DOUBLE, [(1, 1)], [(2, 0)], [(2, 1)], 1, 3), "zero")
        self.assertEqual(step_at(SET_OF, [(5, 2)], [(3, 0)], [(2, 1)], 1, 2), (5, 7))
        self.assertEqual(step_at(SET_OF, [(5, 2)], [(2, 1)], [(3, 0)], 1, 2), (-5, 7))
        self.assertEqual(step_at(SET_OF, [(5, 2)], [(3, 0)], [(2, 1)], 2, 2), (0, 1))

    def test_random_neighbours(self):
        senses, missed = {}, 0
        for box, ratios, locks, others, inlet, outlet in driven_neighbours(3, 1500):
            with self.subTest(works=box.works, ratios=ratios, locks=locks, others=others, inlet=inlet, outlet=outlet):
                sense = step_sense(box, ratios, locks, others, inlet, outlet)
                steps = []
                for told in tries(ratios):
                    due = step_by_motions(box, told, locks, others, inlet, outlet)
                    found = step_at(box, told, locks, others, inlet, outlet)
                    self.assertTrue(is_fraction(found))
                    self.assertEqual(Fraction(*found), due)
                    steps.append(due)
                self.assertTrue(oracle.fits_sense(sense, steps), (sense, steps))
                if sense == "both":
                    missed += not (min(steps) < 0 < max(steps))
                back = step_sense(box, ratios, others, locks, inlet, outlet)
                self.assertEqual(SENSES.get(back, 2), -SENSES.get(sense, -2))
                if inlet == outlet:
                    self.assertEqual(sense, "zero")
                senses[sense] = senses.get(sense, 0) + 1
        self.assertLessEqual({"plus", "minus", "zero", "both"}, set(senses))
        self.assertLess(missed, senses["both"])

    def test_the_sense_is_that_of_the_product(self):
        for box, ratios, locks, others, inlet, outlet in driven_neighbours(4, 800):
            common = [lock for lock in locks if lock in others]
            forms = list(step_forms(box, ratios, locks, others, inlet, outlet))
            lock, new = changed(box.shafts, locks, others)
            forms += [tree_form(box, ratios, common, [own, (inlet, 0)]) for own in (lock, new)]
            self.assertEqual(step_sense(box, ratios, locks, others, inlet, outlet), product_sense(forms))

    def test_a_part_that_stands_twice(self):
        """Both factors of the step change their signs together: their product is 0 somewhere, but turns nowhere."""
        works = [("planet", 4, 6, 3), ("double", 4, 2, 3), ("pair", 6, 4), ("planet", 1, 2, 5)]
        for outlet, due in ((3, "plus or zero"), (4, "minus or zero"), (6, "plus or zero")):
            given = (Box(6, works), [None] * 4, [(1, 0)], [(3, 1)], 5, outlet)
            self.assertEqual(step_sense(*given), due)
            forms = step_forms(*given)
            self.assertEqual([sense_of(form) for form in forms], ["both", "both"])
            told = at_zero(forms[0], 4)
            self.assertEqual(step_at(given[0], told, *given[2:]), (0, 1))
            self.assertEqual(step_sense(given[0], told, *given[2:]), "zero")
            steps = [Fraction(*step_at(given[0], told, *given[2:])) for told in tries(given[1])]
            self.assertTrue(any(steps) and oracle.fits_sense(due, steps))

    def test_driven_at_these_ratios_only(self):
        # With the ring held and the carrier as inlet, the sun of a set with pairs stands at the ratio 1.
        self.assertEqual(driven(DOUBLE, [None], [(3, 0)], 1), "some")
        with self.assertRaises(NotDriven):
            step_sense(DOUBLE, [None], [(3, 0)], [(2, 1)], 1, 2)
        with self.assertRaises(NotDriven):
            step_at(DOUBLE, [(1, 1)], [(3, 0)], [(2, 1)], 1, 2)
        with self.assertRaises(NotDriven):
            step_at(DOUBLE, [(1, 1)], [(2, 1)], [(3, 0)], 1, 2)
        self.assertEqual(step_at(DOUBLE, [(1, 2)], [(3, 0)], [(2, 1)], 1, 2), (-1, 1))
        self.assertEqual(step_at(DOUBLE, [(3, 1)], [(3, 0)], [(2, 1)], 1, 2), (3, 2))
        self.assertEqual(step_sense(DOUBLE, [(3, 1)], [(3, 0)], [(2, 1)], 1, 2), "plus")

    def test_further_told_ratios_keep_senses(self):
        chance = random.Random(5)
        for box, ratios, locks, others, inlet, outlet in driven_neighbours(5, 300):
            sense = step_sense(box, ratios, locks, others, inlet, outlet)
            later = step_sense(box, random_told(chance, ratios), locks, others, inlet, outlet)
            if sense in SENSES:
                self.assertEqual(later, sense)
            elif sense != "both":
                self.assertIn(later, (sense.split()[0], "zero"))


class LadderTest(JudgingTest):
    def test_by_hand(self):
        gears = [[(2, 0)], [(3, 0)], [(2, 1)]]
        self.assertEqual(ladder(SET_OF, [None], gears, 1, 2), ["plus", "plus"])
        self.assertEqual(ladder(SET_OF, [None], gears[::-1], 1, 2), ["minus", "minus"])
        self.assertEqual(ladder(SET_OF, [None], gears[:2], 1, 1), ["zero"])
        self.assertEqual(ladder(SET_OF, [None], gears + gears[:1], 1, 2), ["plus", "plus", "minus"])

    def test_fewer_than_two_gears(self):
        for gears in ([], [[(3, 0)]], [[]], [[(1, 0), (2, 0), (3, 0)]], [[(1, 0)]]):
            self.assertEqual(ladder(SET_OF, [None], gears, 1, 2), [])

    def test_the_first_pair_that_raises(self):
        with self.assertRaises(Unbalanced):
            ladder(SET_OF, [None], [[(3, 0)], [], [(3, 0)], [(1, 0)]], 1, 2)
        with self.assertRaises(NotDriven):
            ladder(SET_OF, [None], [[(3, 0)], [(1, 0)], []], 1, 2)
        with self.assertRaises(NotNeighbours):
            ladder(SET_OF, [None], [[(3, 0)], [(3, 0)], [(1, 0)]], 1, 2)
        with self.assertRaises(NotDriven):
            ladder(SET_OF, [None], [[(2, 0)], [(3, 0)], [(1, 0)]], 1, 2)

    def test_like_the_steps(self):
        locks = [(2, 0), (2, 1), (3, 0), (3, 1), (3, 2)]
        chance = random.Random(6)
        gears = [[(4, 0), lock] if lock < (4, 0) else [lock, (4, 0)] for lock in locks]
        row = [sorted(chance.choice(gears)) for _ in range(8)]
        row = [gear for at, gear in enumerate(row) if at == 0 or gear != row[at - 1]]
        box = Box(4, [("planet", 1, 2, 3)])
        found = ladder(box, [None], row, 1, 2)
        self.assertEqual(found, [step_sense(box, [None], one, other, 1, 2) for one, other in zip(row, row[1:])])
        self.assertGreater(len(found), 3)


class ErrorsTest(JudgingTest):
    def calls(self, box, ratios, locks, others, inlet, outlet):
        told = [(1, 1)] * len(box)
        return [
            lambda: step_forms(box, ratios, locks, others, inlet, outlet),
            lambda: step_sense(box, ratios, locks, others, inlet, outlet),
            lambda: step_at(box, told, locks, others, inlet, outlet),
            lambda: ladder(box, ratios, [locks, others], inlet, outlet),
        ]

    def judge(self, error, box, ratios, locks, others, inlet=1, outlet=2):
        for at, call in enumerate(self.calls(box, ratios, locks, others, inlet, outlet)):
            with self.subTest(at=at, locks=locks, others=others), self.assertRaises(error):
                call()

    def test_unbalanced(self):
        for one, other in (([], [(3, 0)]), ([(3, 0)], []), ([], []), ([(1, 0), (2, 0)], [(1, 0), (3, 0)]),
                           ([(1, 0)], [(1, 0), (2, 0)])):
            self.judge(Unbalanced, SET_OF, [None], one, other)

    def test_not_neighbours(self):
        self.judge(NotNeighbours, SET_OF, [None], [(3, 0)], [(3, 0)])
        self.judge(NotNeighbours, SET_OF, [None], [(1, 0)], [(1, 0)])
        self.judge(NotNeighbours, Box(3, []), [], [(1, 0), (2, 0)], [(2, 1), (3, 0)])
        self.judge(NotNeighbours, Box(2, [("pair", 1, 2)]), [None], [], [])

    def test_not_driven(self):
        for one, other in (([(1, 0)], [(3, 0)]), ([(3, 0)], [(1, 0)])):
            for call in self.calls(SET_OF, [None], one, other, 1, 2)[1:]:
                with self.assertRaises(NotDriven):
                    call()
            step_forms(SET_OF, [None], one, other, 1, 2)

    def test_parameters_come_first(self):
        self.judge(InvalidShaft, SET_OF, [None], [], [], 0, 2)
        self.judge(InvalidShaft, SET_OF, [None], [(1, 0)], [(1, 0)], 1, 4)
        for call in self.calls(SET_OF, [None], [], [(0, 1)], 0, 0)[:3]:
            with self.assertRaises(InvalidLocks):
                call()
        with self.assertRaises(InvalidGears):
            ladder(SET_OF, [None], [[], [(0, 1)]], 0, 0)


class GreatestTest(JudgingTest):
    def test_greatest_boxes(self):
        box = Box(8, [("planet", 1, 2, 3), ("planet", 1, 3, 4), ("planet", 2, 4, 5), ("planet", 1, 5, 6),
                      ("planet", 3, 6, 7), ("band", 7, 8)])
        locks = [[(5, 0)], [(7, 0)], [(2, 1)]]
        told = [(10 ** 12 - 1, 10 ** 12)] * 6
        for one, other in zip(locks, locks[1:]):
            sense = step_sense(box, [None] * 6, one, other, 1, 8)
            step = Fraction(*step_at(box, told, one, other, 1, 8))
            self.assertTrue(oracle.fits_sense(sense, [step]))
            self.assertEqual(step, step_by_motions(box, told, one, other, 1, 8))
        self.assertEqual(len(ladder(box, [None] * 6, (locks * 3)[:8], 1, 8)), 7)
