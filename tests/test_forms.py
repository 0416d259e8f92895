"""Point 17: forms, their senses, ratios at which they have a sign, and told ratios."""

import random
import unittest
from fractions import Fraction
from itertools import product

from planetlocks.boxes import Box, is_fraction
from planetlocks.errors import InvalidForm, InvalidFraction, InvalidNumber, InvalidRatios
from planetlocks.forms import Form, above, at_zero, below, never_below, sense_of, unknowns_of, with_told
from tests import oracle
from tests.values import any_values

ZERO_FORM = Form([])


def random_form(chance, unknowns, most=3, greatest=4):
    """A form with at most so many terms, of the unknowns of the list."""
    terms = []
    for _ in range(chance.randint(0, most)):
        chosen = tuple(unknown for unknown in unknowns if chance.random() < 0.5)
        terms.append((chosen, chance.randint(-greatest, greatest)))
    return Form(terms)


def random_forms(seed, count, **more):
    chance = random.Random(seed)
    return [random_form(chance, sorted(chance.sample(range(5), chance.randint(0, 3))), **more) for _ in range(count)]


def points(size):
    """Worths for so many unknowns, also 0, below 0 and no integers."""
    return [list(worths) for worths in product([(0, 1), (-3, 2), (1, 3), (4, 1)], repeat=size)]


def as_pair(fraction):
    return (fraction.numerator, fraction.denominator)


def as_fractions(worths):
    return [Fraction(*worth) for worth in worths]


def judge_sense(form):
    """The sense, by worths of which one decides each term (H3)."""
    weight = 1 + sum(abs(number) for _, number in form.terms)
    signs = set()
    for unknowns, _ in form.terms:
        worths = {k: Fraction(weight) if k in unknowns else Fraction(1, weight) for k in range(12)}
        signs.add(oracle.worth(form.terms, worths) > 0)
    return {(): "zero", (True,): "plus", (False,): "minus", (False, True): "both"}[tuple(sorted(signs))]


class FormTest(unittest.TestCase):
    def test_example(self):
        form = Form([((0, 1), 1), ((1,), -2), ((), 0)])
        self.assertEqual(form.terms, [((0, 1), 1), ((1,), -2)])
        self.assertEqual(sense_of(form), "both")
        self.assertEqual(form([(3, 1), (1, 2)]), (1, 2))
        self.assertEqual(with_told(form, 0, (5, 2)).terms, [((1,), 1)])
        self.assertEqual(never_below(form, 0), ((2, 1), None))

    def test_terms_are_gathered(self):
        self.assertEqual(Form([]).terms, [])
        self.assertEqual(Form([((), 0)]).terms, [])
        self.assertEqual(Form([((3,), 2), ((3,), -2)]).terms, [])
        self.assertEqual(Form([((3,), 2), ((), 1), ((3,), 3), ((), -1)]).terms, [((3,), 5)])
        terms = [((2,), 1), ((0, 1, 2), 4), ((), -7), ((1,), 1), ((0,), 10 ** 29), ((0, 2), 1)]
        ascending = [((), -7), ((0,), 10 ** 29), ((0, 1, 2), 4), ((0, 2), 1), ((1,), 1), ((2,), 1)]
        self.assertEqual(Form(terms).terms, ascending)
        self.assertIs(type(Form(terms).terms), list)

    def test_length_and_iteration(self):
        form = Form([((1,), 3), ((), 5), ((0,), 0)])
        self.assertEqual(len(form), 2)
        self.assertEqual(list(form), [((), 5), ((1,), 3)])
        self.assertEqual([term for term in form], form.terms)
        self.assertEqual([len(ZERO_FORM), list(ZERO_FORM)], [0, []])

    def test_lists_stay_apart(self):
        passed = [((0,), 1), ((), 2)]
        form = Form(passed)
        passed.append(((1,), 5))
        passed[0] = ((), 9)
        self.assertEqual(form.terms, [((), 2), ((0,), 1)])
        form.terms.append(((1,), 5))
        form.terms[0] = ((), 7)
        self.assertEqual(form.terms, [((), 2), ((0,), 1)])
        self.assertEqual(len(form), 2)

    def test_wrong_terms(self):
        wrong = [
            (), (((0,), 1),), {}, "()", [()], [[(0,), 1]], [((0,),)], [((0,), 1, 1)], [([0], 1)], [(0, 1)], [(None, 1)],
            [((0, 0), 1)], [((1, 0), 1)], [((0, 2, 1), 1)], [((-1,), 1)], [((True,), 1)], [((False,), 1)],
            [(("0",), 1)], [((0,), True)], [((0,), False)], [((0,), "1")], [((0,), None)], [((0,), (1, 1))],
            [((0,), 1), None], [((0,), 1), ((), 1.5)], [((0.5,), 1)], [ZERO_FORM], ZERO_FORM, [((ZERO_FORM,), 1)],
            [((0,), ZERO_FORM)], [((0, (1,)), 1)], [((Box(1, []),), 1)],
        ]
        for value in wrong:
            with self.subTest(value=value), self.assertRaises(InvalidForm):
                Form(value)
        for value in any_values():
            if value != []:
                with self.subTest(value=value), self.assertRaises(InvalidForm):
                    Form(value)

    def test_sums_and_multiples(self):
        for one, other in zip(random_forms(1, 60), random_forms(2, 60)):
            for worths in points(5)[::37]:
                a, b = one(worths), other(worths)
                self.assertEqual(Fraction(*(one + other)(worths)), Fraction(*a) + Fraction(*b))
                self.assertEqual(Fraction(*(one - other)(worths)), Fraction(*a) - Fraction(*b))
                self.assertEqual(Fraction(*(-one)(worths)), -Fraction(*a))
                self.assertEqual(Fraction(*(one * -7)(worths)), -7 * Fraction(*a))
            self.assertEqual((one - one).terms, [])
            self.assertEqual((one + -one).terms, [])
            self.assertEqual((one * 0).terms, [])
            self.assertEqual(one * 1, one)
            self.assertEqual(one - other + other, one)
        form = Form([((0,), 2), ((), -1)])
        self.assertEqual((form + Form([((1,), 1), ((), 1)])).terms, [((0,), 2), ((1,), 1)])
        self.assertEqual((form - Form([((1,), 1), ((), 1)])).terms, [((), -2), ((0,), 2), ((1,), -1)])
        self.assertEqual((-form).terms, [((), 1), ((0,), -2)])
        self.assertEqual((form * 10 ** 30).terms, [((), -10 ** 30), ((0,), 2 * 10 ** 30)])
        self.assertEqual(form.terms, [((), -1), ((0,), 2)])

    def test_wrong_operands(self):
        form = Form([((0,), 2)])
        for value in any_values():
            if not isinstance(value, Form):
                with self.subTest(value=value):
                    with self.assertRaises(InvalidForm):
                        form + value
                    with self.assertRaises(InvalidForm):
                        form - value
            if type(value) is not int:
                with self.subTest(value=value), self.assertRaises(InvalidNumber):
                    form * value
        with self.assertRaises(InvalidNumber):
            form * form

    def test_worth(self):
        for form in random_forms(3, 80, most=6):
            for worths in points(5)[::41]:
                value = form(worths)
                self.assertTrue(is_fraction(value))
                self.assertEqual(Fraction(*value), oracle.worth(form.terms, as_fractions(worths)))
        self.assertEqual(ZERO_FORM([]), (0, 1))
        self.assertEqual(Form([((), 4)])([]), (4, 1))
        self.assertEqual(Form([((1,), 4)])(worths=[(0, 1), (-1, 6)]), (-2, 3))
        self.assertEqual(Form([((0,), 4)])([(0, 1), (1, 6), (1, 1)]), (0, 1))

    def test_wrong_worths(self):
        form = Form([((1,), 4)])
        wrong = [[], [(1, 1)], ((1, 1), (1, 1)), [(1, 1), (2, 2)], [(1, 1), (1, 0)], [(1, 1), (1, -1)], [(1, 1), None],
                 [(1, 1), 1], [(1, 1), (True, 1)], [(1, 1), (1, 1), (2, 4)], [None, (1, 1)], [(1, 1), [1, 1]]]
        for value in wrong:
            with self.subTest(value=value), self.assertRaises(InvalidRatios):
                form(value)
        for value in any_values():
            with self.subTest(value=value), self.assertRaises(InvalidRatios):
                form(value)
            if type(value) is not list or value not in ([], [(0, 1)], [(1, 1)]):
                with self.subTest(value=value), self.assertRaises(InvalidRatios):
                    Form([((), 1)])(value)

    def test_equality(self):
        form = Form([((0,), 2), ((), 1)])
        self.assertTrue(form == Form([((), 1), ((0,), 1), ((0,), 1), ((4,), 0)]))
        self.assertFalse(form != Form([((), 1), ((0,), 2)]))
        for other in ([], [((), 1)], [((), 1), ((0,), 3)], [((), 1), ((1,), 2)], [((), 1), ((0,), 2), ((1,), 1)]):
            self.assertFalse(form == Form(other))
        for value in any_values() + [form.terms, tuple(form.terms)]:
            if type(value) is not Form:
                self.assertIs(form == value, False)

    def test_great_numbers(self):
        terms = [(tuple(u for u in range(6) if mask >> u & 1), (-1) ** mask * (10 ** 30 - mask)) for mask in range(64)]
        form = Form(terms)
        self.assertEqual(len(form), 64)
        zero = at_zero(form, 20)
        self.assertEqual(form(zero), (0, 1))
        self.assertGreater(form(above(form, 20))[0], 0)
        self.assertLess(form(below(form, 20))[0], 0)
        self.assertEqual((form * -(10 ** 30 - 1)).terms[0], ((), -(10 ** 30) * (10 ** 30 - 1)))


class SenseTest(unittest.TestCase):
    def test_words(self):
        self.assertEqual(sense_of(ZERO_FORM), "zero")
        self.assertEqual(sense_of(Form([((), 1)])), "plus")
        self.assertEqual(sense_of(Form([((), -1)])), "minus")
        self.assertEqual(sense_of(Form([((), 1), ((2, 5), 3)])), "plus")
        self.assertEqual(sense_of(Form([((0,), -1), ((2, 5), -3)])), "minus")
        self.assertEqual(sense_of(Form([((0,), -1), ((), 10 ** 20)])), "both")
        self.assertEqual(sense_of(Form([((0,), 1), ((1,), -1)])), "both")

    def test_senses_hold(self):
        for form in random_forms(4, 300):
            self.assertEqual(sense_of(form), judge_sense(form))

    def test_unknowns(self):
        self.assertEqual(unknowns_of(ZERO_FORM), [])
        self.assertEqual(unknowns_of(Form([((), 7)])), [])
        self.assertEqual(unknowns_of(Form([((4, 9), 1), ((0, 9), 1), ((2,), 0)])), [0, 4, 9])
        self.assertEqual(unknowns_of(Form([((4,), 1), ((4,), -1), ((11,), 2)])), [11])


class SignsTest(unittest.TestCase):
    def judge(self, form, size, worths, sign):
        self.assertIs(type(worths), list)
        self.assertEqual(len(worths), size)
        self.assertTrue(all(is_fraction(worth) and worth[0] > 0 for worth in worths))
        found = oracle.worth(form.terms, as_fractions(worths))
        self.assertEqual((found > 0) - (found < 0), sign)

    def test_there_or_none(self):
        signs = {"zero": (0,), "plus": (1,), "minus": (-1,), "both": (-1, 0, 1)}
        for form in random_forms(5, 400, most=6, greatest=9):
            size = max(unknowns_of(form), default=-1) + 1
            for more in (0, 1, 4):
                for search, sign in ((above, 1), (below, -1), (at_zero, 0)):
                    with self.subTest(terms=form.terms, search=search.__name__):
                        worths = search(form, size + more)
                        if sign in signs[sense_of(form)]:
                            self.judge(form, size + more, worths, sign)
                        else:
                            self.assertIsNone(worths)

    def test_unlike_numbers(self):
        far = 10 ** 30
        for numbers in ((1, -far), (far, -1), (-1, far), (far, -far), (-far, 1)):
            form = Form([((0, 2), numbers[0]), ((1,), numbers[1]), ((), numbers[1]), ((0,), numbers[1])])
            self.judge(form, 3, above(form, 3), 1)
            self.judge(form, 3, below(form, 3), -1)
            self.judge(form, 3, at_zero(form, 3), 0)

    def test_size_0(self):
        self.assertEqual(above(Form([((), 2)]), 0), [])
        self.assertIsNone(below(Form([((), 2)]), 0))
        self.assertIsNone(at_zero(Form([((), 2)]), 0))
        self.assertEqual(below(Form([((), -2)]), 0), [])
        self.assertEqual(at_zero(ZERO_FORM, 0), [])
        self.assertIsNone(above(ZERO_FORM, 0))

    def test_size_just_fits(self):
        form = Form([((3,), 1), ((), -1)])
        for search in (above, below, at_zero):
            self.assertEqual(len(search(form, 4)), 4)
            self.assertEqual(len(search(form, 20)), 20)
            for size in (0, 1, 3, -1, True, "4", None):
                with self.subTest(size=size), self.assertRaises(InvalidNumber):
                    search(form, size)

    def test_size_is_looked_at_without_an_answer_too(self):
        form = Form([((3,), 1)])
        for search in (above, below, at_zero):
            with self.assertRaises(InvalidNumber):
                search(form, 3)
        with self.assertRaises(InvalidForm):
            above([], -1)

    def test_lists_are_new(self):
        form = Form([((0,), 1), ((), -1)])
        for search in (above, below, at_zero):
            kept = search(form, 2)
            search(form, 2).append("more")
            self.assertEqual(search(form, 2), kept)


class ToldTest(unittest.TestCase):
    def test_worths_with_a_told_ratio(self):
        for form in random_forms(6, 100, most=6):
            for unknown in range(6):
                for ratio in ((1, 1), (5, 2), (2, 7)):
                    told = with_told(form, unknown, ratio)
                    self.assertIs(type(told), Form)
                    self.assertNotIn(unknown, unknowns_of(told))
                    for worths in points(5)[::211]:
                        whole = worths + [(1, 1)]
                        whole[unknown] = ratio
                        due = Fraction(*form(whole)) * ratio[1]
                        self.assertEqual(Fraction(*told(whole)), due)

    def test_an_unknown_of_no_term(self):
        form = Form([((0,), 3), ((), 1)])
        self.assertEqual(with_told(form, 1, (2, 5)).terms, [((), 5), ((0,), 15)])
        self.assertEqual(with_told(form, 10 ** 39, (2, 1)), form)
        self.assertEqual(with_told(ZERO_FORM, 0, (2, 5)), ZERO_FORM)

    def test_terms_that_go_out(self):
        form = Form([((0, 1), 2), ((1,), -5), ((), 1)])
        self.assertEqual(with_told(form, 0, (5, 2)).terms, [((), 2)])
        self.assertEqual(with_told(Form([((0,), 2), ((), -1)]), 0, (1, 2)).terms, [])

    def test_wrong_ratios(self):
        form = Form([((0,), 1)])
        for ratio in ((0, 1), (-1, 2), (2, 4), (1, 0), (True, 1), [1, 2], 1, None, "1/2", (1, 2, 3), (1,)):
            with self.subTest(ratio=ratio), self.assertRaises(InvalidFraction):
                with_told(form, 0, ratio)


class NeverBelowTest(unittest.TestCase):
    def test_by_hand(self):
        cases = [
            ([], ((0, 1), None)),
            ([((), 3)], ((0, 1), None)),
            ([((), -3)], None),
            ([((0,), 1)], ((0, 1), None)),
            ([((0,), -1)], None),
            ([((), 3), ((0,), 2)], ((0, 1), None)),
            ([((), -3), ((0,), 2)], ((3, 2), None)),
            ([((), 3), ((0,), -2)], ((0, 1), (3, 2))),
            ([((), -3), ((0,), 2), ((1,), 4), ((0, 1), -1)], ((3, 2), (4, 1))),
            ([((), -3), ((0,), 2), ((1,), 3), ((0, 1), -2)], ((3, 2), (3, 2))),
            ([((), -3), ((0,), 2), ((1,), 4), ((0, 1), -3)], None),
            ([((), -3), ((0,), 2), ((1,), -1)], None),
            ([((), -3), ((0,), 2), ((1,), 1)], ((3, 2), None)),
            ([((1,), -4), ((0, 1), 2), ((2,), -5), ((0, 2), 2)], ((5, 2), None)),
            ([((1,), 4), ((0, 1), -2), ((2,), 5), ((0, 2), -2)], ((0, 1), (2, 1))),
        ]
        for terms, due in cases:
            with self.subTest(terms=terms):
                self.assertEqual(never_below(Form(terms), 0), due)

    def test_other_unknowns(self):
        form = Form([((0, 1), 1), ((1,), -2)])
        self.assertIsNone(never_below(form, 1))
        self.assertIsNone(never_below(form, 2))
        self.assertEqual(never_below(Form([((1,), 1)]), 10 ** 39), ((0, 1), None))

    def test_just_these_ratios(self):
        for form in random_forms(7, 400, most=5, greatest=5):
            for unknown in range(5):
                found = never_below(form, unknown)
                for ratio in self.tried(form):
                    good = sense_of(with_told(form, unknown, as_pair(ratio))) in ("zero", "plus")
                    with self.subTest(terms=form.terms, unknown=unknown, ratio=ratio):
                        self.assertEqual(good, self.is_inside(found, ratio))

    def tried(self, form):
        """All ratios at which a number may come to 0, and one between each two of them and on both sides."""
        numbers = sorted({abs(number) for _, number in form})
        ends = sorted({Fraction(a, b) for a in numbers for b in numbers} | {Fraction(1)})
        between = [(a + b) / 2 for a, b in zip(ends, ends[1:])]
        return ends + between + [ends[0] / 2, ends[-1] * 2]

    def is_inside(self, found, ratio):
        if found is None:
            return False
        return Fraction(*found[0]) <= ratio and (found[1] is None or ratio <= Fraction(*found[1]))
