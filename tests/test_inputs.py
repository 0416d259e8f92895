"""Point 2: the errors of the parameters, their order, arguments by name, and lists that stay apart."""

import unittest
from copy import deepcopy
from sys import modules

from planetlocks import (
    boxes, forms, live, loads, motions, parts, plans, ranges, splits, steps, told, trees, webs, words,
)
from planetlocks.boxes import Box
from planetlocks.errors import (
    InvalidBox, InvalidDifferences, InvalidForm, InvalidFraction, InvalidGears, InvalidIndex, InvalidLock, InvalidLocks,
    InvalidLooks, InvalidNumber, InvalidOrder, InvalidRatios, InvalidShaft, InvalidShafts, InvalidSpeeds, InvalidWords,
    InvalidWork,
)
from planetlocks.forms import Form
from tests.values import any_values, nested

SHAFTS = 3
WORKS = [("planet", 1, 2, 3), ("band", 3, 1)]
GOOD = {
    "shafts": SHAFTS,
    "box": Box(SHAFTS, WORKS),
    "work": ("double", 3, 0, 1),
    "works": WORKS,
    "at": 1,
    "differences": [(0, 3), (3, 1), (1, 2)],
    "locks": [(2, 1), (3, 0)],
    "inlet": 2,
    "order": (3, 1, 2),
    "told": [(5, 2), (3, 1)],
    "speeds": [(0, 1), (1, 1), (1, 3), (0, 1)],
    "value": [(0, 1)],
    "terms": [((1,), -2), ((), 3)],
    "form": Form([((0,), 1), ((1,), -2)]),
    "other_form": Form([((2,), 3), ((), 1)]),
    "forms": [Form([((0,), 1), ((1,), -2)]), Form([((0,), 2)])],
    "unknown": 1,
    "size": 3,
    "ratio": (5, 2),
    "ratios": [None],
    "extra": [(1, 0)],
    "shaft": 2,
    "other_shaft": 0,
    "speed": (2, 7),
    "other_locks": [(2, 1)],
    "lock": (3, 0),
    "gears": [[(2, 0)], [(3, 0)], [(2, 1)]],
    "outlet": 2,
    "other_inlet": 3,
    "looks": [([(3, 0)], [(0, 1), (1, 1), (2, 7), (0, 1)])],
    "offered": [(2, 0), (2, 1), (3, 0)],
    "words": "3 planet 1 2 3",
    "low": (-1, 2),
    "high": None,
}
# What a gear needs that has just as many locks as are due.
GEAR = {"box": Box(SHAFTS, WORKS[:1]), "locks": [(3, 0)], "inlet": 1}
TIED = {"box": Box(SHAFTS, WORKS[:1]), "locks": [(2, 1), (3, 0)]}
TOLD_GEAR = {"told": [(5, 2)], "at": 0, **GEAR}
SPLIT = {**TOLD_GEAR, "locks": []}
# In which arguments a module needs a gear; one call may need others.
OWN = {
    trees: GEAR, ranges: GEAR, steps: TOLD_GEAR, loads: TOLD_GEAR, splits: SPLIT, told: GEAR,
    trees.tied: TIED, trees.untied: TIED, plans: GEAR, live: GEAR, words: GEAR,
    words.read_ratios: {"words": "5/2", **GEAR}, words.read_locks: {"words": "2-1 3-0"},
}
ERRORS = {
    "shafts": InvalidShafts, "box": InvalidBox, "work": InvalidWork, "works": InvalidWork, "at": InvalidIndex,
    "differences": InvalidDifferences, "locks": InvalidLocks, "inlet": InvalidShaft, "order": InvalidOrder,
    "told": InvalidRatios, "speeds": InvalidSpeeds, "terms": InvalidForm, "form": InvalidForm,
    "other_form": InvalidForm, "forms": InvalidForm, "unknown": InvalidNumber, "size": InvalidNumber,
    "ratio": InvalidFraction, "ratios": InvalidRatios, "extra": InvalidDifferences, "shaft": InvalidShaft,
    "other_shaft": InvalidShaft, "speed": InvalidFraction, "other_locks": InvalidLocks, "lock": InvalidLock,
    "gears": InvalidGears, "outlet": InvalidShaft, "other_inlet": InvalidShaft, "looks": InvalidLooks,
    "offered": InvalidLocks, "words": InvalidWords, "low": InvalidFraction, "high": InvalidFraction,
}
CALLS = {
    webs.is_tree: ("shafts", "differences"),
    webs.tree_sign: ("shafts", "differences"),
    webs.holding_order: ("shafts", "differences"),
    webs.judge_order: ("shafts", "differences", "value"),
    webs.ring_of: ("shafts", "differences"),
    webs.judge_ring: ("shafts", "differences", "value"),
    webs.apart: ("shafts", "differences"),
    webs.tree_count: ("shafts", "differences"),
    webs.tree_sets: ("shafts", "differences"),
    boxes.Box: ("shafts", "works"),
    boxes.is_fraction: ("value",),
    boxes.is_work: ("shafts", "value"),
    boxes.is_locks: ("shafts", "value"),
    boxes.is_ratios: ("box", "value"),
    boxes.first_difference: ("box", "at"),
    boxes.second_difference: ("box", "at"),
    boxes.sense_at: ("box", "at"),
    boxes.with_work: ("box", "work"),
    boxes.without_work: ("box", "at"),
    boxes.turned: ("box", "at"),
    boxes.renamed: ("box", "order"),
    boxes.renamed_locks: ("shafts", "order", "locks"),
    motions.holds: ("box", "told", "locks", "speeds"),
    motions.freedom: ("box", "told", "locks"),
    motions.motions: ("box", "told", "locks"),
    motions.speeds_of: ("box", "told", "locks", "inlet"),
    motions.still: ("box", "told", "locks"),
    motions.alike: ("box", "told", "locks"),
    forms.Form: ("terms",),
    forms.sense_of: ("form",),
    forms.unknowns_of: ("form",),
    forms.above: ("form", "size"),
    forms.below: ("form", "size"),
    forms.at_zero: ("form", "size"),
    forms.with_told: ("form", "unknown", "ratio"),
    forms.never_below: ("form", "unknown"),
    trees.tree_form: ("box", "ratios", "locks", "extra"),
    trees.choices_of: ("box", "locks", "extra"),
    trees.driven: ("box", "ratios", "locks", "inlet"),
    trees.undriven: ("box", "ratios", "locks", "inlet"),
    trees.tied: ("box", "ratios", "locks"),
    trees.untied: ("box", "ratios", "locks"),
    ranges.speed_range: ("box", "ratios", "locks", "inlet", "shaft"),
    ranges.slip_range: ("box", "ratios", "locks", "inlet", "shaft", "other_shaft"),
    ranges.compared: ("box", "ratios", "locks", "inlet", "shaft", "other_shaft"),
    ranges.ratios_for: ("box", "ratios", "locks", "inlet", "shaft", "speed"),
    ranges.sure_order: ("box", "ratios", "locks", "inlet"),
    ranges.same_speeds: ("box", "ratios", "locks", "inlet"),
    parts.parts: ("form",),
    parts.product: ("form", "other_form"),
    parts.product_sense: ("forms",),
    steps.changed: ("shafts", "locks", "other_locks"),
    steps.step_forms: ("box", "ratios", "locks", "other_locks", "inlet", "outlet"),
    steps.step_sense: ("box", "ratios", "locks", "other_locks", "inlet", "outlet"),
    steps.step_at: ("box", "told", "locks", "other_locks", "inlet", "outlet"),
    steps.ladder: ("box", "ratios", "gears", "inlet", "outlet"),
    loads.balance: ("box", "told", "locks", "inlet", "outlet"),
    loads.is_balance: ("box", "told", "locks", "inlet", "outlet", "value"),
    loads.torque_range: ("box", "ratios", "locks", "inlet", "outlet"),
    loads.load_range: ("box", "ratios", "locks", "inlet", "outlet", "lock"),
    loads.work_load_range: ("box", "ratios", "locks", "inlet", "outlet", "at"),
    loads.power_sense: ("box", "ratios", "locks", "inlet", "outlet", "lock"),
    loads.freewheel: ("box", "ratios", "locks", "other_locks", "inlet", "outlet"),
    splits.split_driven: ("box", "ratios", "locks", "inlet", "other_inlet"),
    splits.unsplit: ("box", "ratios", "locks", "inlet", "other_inlet"),
    splits.shares: ("box", "told", "locks", "inlet", "other_inlet", "shaft"),
    splits.share_range: ("box", "ratios", "locks", "inlet", "other_inlet", "shaft"),
    splits.sum_range: ("box", "ratios", "locks", "inlet", "other_inlet", "shaft"),
    splits.blend: ("box", "ratios", "locks", "inlet", "other_inlet", "shaft"),
    splits.rest_range: ("box", "ratios", "locks", "inlet", "other_inlet", "shaft"),
    splits.torque_split: ("box", "ratios", "locks", "inlet", "other_inlet", "outlet"),
    told.told_by: ("box", "looks"),
    told.depends: ("box", "ratios", "locks", "inlet", "shaft"),
    told.ratio_from: ("box", "ratios", "locks", "inlet", "shaft", "speed"),
    told.look_plan: ("box", "ratios", "gears", "inlet"),
    plans.gears_of: ("box", "ratios", "offered", "inlet"),
    plans.kinds_of: ("box", "ratios", "offered", "inlet", "outlet"),
    plans.sure_steps: ("box", "ratios", "offered", "inlet", "outlet"),
    plans.levels: ("box", "ratios", "offered", "inlet", "outlet"),
    plans.longest_ladder: ("box", "ratios", "offered", "inlet", "outlet"),
    plans.judge_ladder: ("box", "ratios", "offered", "inlet", "outlet", "value"),
    live.Bench: ("box", "inlet"),
    live.SureBench: ("box", "inlet"),
    words.write_box: ("box",),
    words.write_ratios: ("box", "ratios"),
    words.write_locks: ("shafts", "locks"),
    words.write_range: ("low", "high"),
    words.read_box: ("words",),
    words.read_ratios: ("box", "words"),
    words.read_locks: ("shafts", "words"),
}
# Wrong values of the parameter's own form, beside the values of all kinds.
NEAR = {
    "shafts": [0, -1, -10 ** 39, True, "3", (3,), [3]],
    "box": [(SHAFTS, WORKS), [SHAFTS, WORKS], (SHAFTS, tuple(WORKS)), "3 planet 1 2 3", WORKS],
    "work": [("double", 3, 0, 4), ("double", 3, 0), ("pair", 0, 1), ("pair", 1, 1), ("band", 1, True), ["pair", 1, 2],
             ("planet", 1, 2, 2), ("gear", 1, 2), ("planet", 1, 2, -1), ("pair", 1, 2, 3)],
    "works": [tuple(WORKS), WORKS + [None], WORKS + [("pair", 1, 4)], WORKS + [list(WORKS[0])], WORKS[0]],
    "at": [2, -1, True, False, 10 ** 39, "0", (0,), [1]],
    "differences": [((0, 3), (3, 1), (1, 2)), [(0, 3), (3, 1), (1, 4)], [(0, 3), (3, 3)], [(0, 3), [3, 1]],
                    [(0, 3), (3, -1)], [(0, True)], [(False, 1)], [(1, 0), (1,)], [(1, 0), (1, 0, 2)], [(1, "0")]],
    "locks": [[(3, 0), (2, 1)], [(2, 1), (2, 1)], [(1, 2)], [(2, 1), (0, 3)], ((2, 1), (3, 0)), [(4, 0)], [(3, 3)],
              [[2, 1]], [(2, True)], [(3, False)], [(3, 0, 1)], [(1, -1)]],
    "inlet": [0, 4, -1, True, "1", (1,), [1], 10 ** 39],
    "order": [[3, 1, 2], (3, 1), (3, 1, 2, 4), (3, 1, 1), (3, 1, 0), (3, 1, 4), (3, True, 2), (3, 1, "2"), (3, 1, [2])],
    "told": [[(5, 2), None], [(5, 2)], [(5, 2), (3, 1), (3, 1)], [(5, 2), (0, 1)], [(5, 2), (-3, 1)], [(5, 2), (6, 2)],
             [(5, 2), (3, 0)], [(5, 2), (-3, -1)], [(5, 2), (3, True)], [(5, 2), [3, 1]], ((5, 2), (3, 1)),
             [(5, 2), 3], [(5, 2), (3, -1)]],
    "speeds": [[(0, 1), (1, 1), (1, 3)], [(0, 1)] * 5, [(1, 1)] * 4, [(0, 1), (1, 1), (1, 3), None],
               [(0, 1), (1, 1), (2, 6), (0, 1)], [(0, 1), (1, 1), (1, 3), (0, 2)], [(0, 2)] + [(0, 1)] * 3,
               [(0, 1), (1, 1), (1, 3), (False, 1)], [(0, 1), (1, 1), [1, 3], (0, 1)], ((0, 1),) * 4, [0, 1, 1, 0],
               [(0, 1), (1, 1), (1, -3), (0, 1)], [(0, 1), (1, 1), (1, 0), (0, 1)]],
    "terms": [(((1,), -2),), [((1,), -2), [(), 3]], [((2, 1), 1)], [((1, 1), 1)], [((-1,), 1)], [((1,), True)],
              [((True,), 1)], [([1], 1)], [((1,), 1, 1)], [((1,),)], [(1, 1)], [((1,), "1")], [((1,), (1, 1))]],
    "form": [[((0,), 1)], ((0,), 1), [Form([])], (Form([]),), "0", {}],
    "other_form": [[((2,), 3)], ((2,), 3), [Form([])], (Form([]),), "0", {}],
    "forms": [(Form([]),), Form([]), [Form([]), None], [[Form([])]], [[((0,), 1)]], [0], {}],
    "unknown": [-1, -10 ** 39, True, False, "1", (1,), [1], (1, 1)],
    "size": [-1, -10 ** 39, True, False, "3", (3,), [3], (3, 1)],
    "ratio": [(0, 1), (-5, 2), (10, 4), (5, 0), (5, -2), (-5, -2), (5, True), [5, 2], 5, "5/2", (5,), (5, 2, 1)],
    "ratios": [[], [None, None], [(5, 2), (3, 1)], (None,), [(0, 1)], [(-5, 2)], [(10, 4)], [(5, 0)], [[5, 2]], [5],
               [False], [0], [(5, 2), None], [(True, 2)], "?"],
    "extra": [((1, 0),), [(1, 0), (1, 4)], [(3, 3)], [[3, 1]], [(3, -1)], [(0, True)], [(1,)], [(1, 0, 2)], [(1, "0")]],
    "shaft": [4, -1, True, False, "1", (1,), [1], 10 ** 39, (1, 1)],
    "other_shaft": [4, -1, True, False, "0", (0,), [0], 10 ** 39, (0, 1)],
    "speed": [(2, 14), (0, 2), (2, 0), (2, -7), (True, 1), (1, True), [2, 7], 2, "2/7", (2,), (2, 7, 1)],
    "lock": [(0, 3), (1, 0), (2, 1), (4, 0), (True, 0), (3, False), [3, 0], "3-0", (3,), (3, 0, 0), [(3, 0)], 0],
    "gears": [([(3, 0)],), [((3, 0),)], [(3, 0)], [[(0, 3)]], [[(3, 0)], None], [[(3, 0)], [(3, 0), (2, 0)]],
              [[[3, 0]]],
              [[(4, 0)]], [[(3, True)]], [[(2, 1), (2, 1)]], {}, [()]],
    "outlet": [0, 4, -1, True, "2", (2,), [2], 10 ** 39],
    "other_inlet": [0, 4, -1, 1, True, "3", (3,), [3], 10 ** 39],
    "looks": [([(3, 0)],), [[[], [(0, 1)] * 4]], [([], [(0, 1)] * 3)], [([], [(0, 1)] * 5)], [([], [(1, 1)] * 4)],
              [([(0, 3)], [(0, 1)] * 4)], [([], ((0, 1),) * 4)], [((), [(0, 1)] * 4)], [([], [(0, 1)] * 4, 0)], [([],)],
              [([], [(0, 1), (2, 4), (0, 1), (0, 1)])], [([], [(0, 1)] * 4), None], [[]], {}],
}
NEAR["other_locks"] = NEAR["offered"] = NEAR["locks"]
NEAR["words"] = ["3 planet 1 2", "", 3, ["3"], ("3",), b"3", "5 /2", "3-0 2-1", "5/2 ?"]
NEAR["low"] = NEAR["high"] = NEAR["speed"] + ["*", "1/2"]


def plain(part):
    """Whether no truth stands in the part, which would be equal to an integer."""
    if type(part) in (tuple, list):
        return all(plain(one) for one in part)
    return type(part) is not bool


def is_right(name, value, works):
    """Whether a value fits to this parameter, in a call with so many works."""
    if name == "shafts":
        return type(value) is int and value >= 1
    if name == "box":
        return type(value) is Box
    if name == "at":
        return type(value) is int and 0 <= value < works
    if name == "told":
        return type(value) is list and plain(value) and value in ([(5, 2)], [(1, 1)]) and works == 1
    if name in ("inlet", "outlet"):
        return type(value) is int and value in (1, 2, 3)
    if name == "other_inlet":
        return type(value) is int and value in (2, 3)
    if name == "work":
        return type(value) is tuple and value == ("planet", 1, 2, 3)
    if name == "works":
        return type(value) is list and not value
    if name in ("form", "other_form"):
        return type(value) is Form
    if name == "forms":
        return value == [] or type(value) is list and all(type(one) is Form for one in value)
    if name == "terms":
        return type(value) is list and not value
    if name in ("unknown", "size"):
        return type(value) is int and value >= 0
    if name == "ratio":
        return plain(value) and value == (1, 1)
    if name == "speed":
        return plain(value) and value in ((1, 1), (0, 1))
    if name == "ratios":
        return type(value) is list and plain(value) and value in ([None], [(1, 1)])
    if name in ("shaft", "other_shaft"):
        return type(value) is int and value in (0, 1, 2, 3)
    if name in ("differences", "extra"):
        return type(value) is list and plain(value) and value in ([], [(0, 1)], [(1, 0)])
    if name == "gears":
        return type(value) is list and value in ([], [[]], [[]] * 400)
    if name == "looks":
        return type(value) is list and not value
    if name == "words":
        return type(value) is str and value in ("1", "3 planet 1 2 3")
    if name in ("low", "high"):
        return value is None or is_right("speed", value, works)
    if name in ("locks", "other_locks", "offered"):
        return type(value) is list and plain(value) and value in ([], [(1, 0)])
    return False


def wrong_values(name, works):
    return [value for value in NEAR[name] + any_values() if not is_right(name, value, works)]


def arguments(call):
    """New right arguments by name, such that the call raises nothing."""
    own = OWN.get(call, OWN.get(modules[call.__module__], {}))
    return {name: deepcopy(own.get(name, GOOD[name])) for name in CALLS[call]}


class WrongArgumentsTest(unittest.TestCase):
    def test_each_parameter(self):
        for call, names in CALLS.items():
            for name in names:
                if name == "value":
                    continue
                for value in wrong_values(name, len(arguments(call).get("box", []))):
                    with self.subTest(call=call.__name__, name=name, value=value):
                        given = arguments(call)
                        given[name] = value
                        with self.assertRaises(ERRORS[name]) as caught:
                            call(**given)
                        self.assertIs(type(caught.exception), ERRORS[name])

    def test_the_earlier_one_of_two_comes(self):
        wrong = {name: ["x", True, nested(list, 12), NEAR[name][0]] for name in ERRORS}
        for call, names in CALLS.items():
            due = [name for name in names if name != "value"]
            for k, first in enumerate(due):
                for second in due[k + 1:]:
                    for one, other in zip(wrong[first], wrong[second]):
                        with self.subTest(call=call.__name__, first=first, second=second):
                            given = arguments(call)
                            given[first], given[second] = one, other
                            with self.assertRaises(ERRORS[first]):
                                call(**given)

    def test_all_wrong_at_once(self):
        for call, names in CALLS.items():
            if names == ("value",):
                continue
            with self.subTest(call=call.__name__), self.assertRaises(ERRORS[names[0]]):
                call(*[True for _ in names])

    def test_the_number_of_shafts_counts(self):
        with self.assertRaises(InvalidDifferences):
            webs.is_tree(2, [(3, 0)])
        with self.assertRaises(InvalidLocks):
            boxes.renamed_locks(2, (1, 2), [(3, 0)])
        with self.assertRaises(InvalidOrder):
            boxes.renamed_locks(2, (1, 2, 3), [(1, 0)])
        for order in ((), (1,), (1, 2), (2,)):
            with self.assertRaises(InvalidOrder):
                boxes.renamed(Box(3, []), order)
        with self.assertRaises(InvalidIndex):
            boxes.first_difference(Box(3, []), 0)
        with self.assertRaises(InvalidShaft):
            motions.speeds_of(Box(1, []), [], [], 2)


class PassingTest(unittest.TestCase):
    def test_by_position_and_by_name(self):
        for call, names in CALLS.items():
            with self.subTest(call=call.__name__):
                given = arguments(call)
                by_name = call(**dict(reversed(list(given.items()))))
                self.assertEqual(call(*given.values()), by_name)

    def test_arguments_stay_as_they_were(self):
        for call, names in CALLS.items():
            with self.subTest(call=call.__name__):
                given = arguments(call)
                call(**given)
                self.assertEqual(given, arguments(call))

    def test_changed_results_change_no_later_ones(self):
        for call, names in CALLS.items():
            given = arguments(call)
            first = call(**given)
            if type(first) is not list:
                continue
            with self.subTest(call=call.__name__):
                kept = deepcopy(first)
                for part in first:
                    if type(part) is list:
                        part.append("more")
                first.append("more")
                self.assertEqual(call(**given), kept)
                self.assertEqual(given, arguments(call))

    def test_lists_inside_of_results_are_unlike_each_other(self):
        for rows in (motions.motions(Box(3, []), [], []), motions.alike(Box(3, []), [], [])):
            rows[0].append("more")
            self.assertTrue(all("more" not in row for row in rows[1:]))

    def test_a_returned_order_is_no_passed_list(self):
        web = [(1, 0)]
        self.assertEqual(webs.tree_sets(1, web), [(0,)])
        locks = [(1, 0)]
        self.assertIsNot(boxes.renamed_locks(1, (1,), locks), locks)

    def test_lists_in_tuples_are_new(self):
        form = Form([((0,), 1), ((1,), -2)])
        parts.parts(form)[1].append("more")
        self.assertEqual(parts.parts(form), (1, [form]))
        zero = parts.parts(Form([]))
        zero[1].append("more")
        self.assertEqual(parts.parts(Form([])), (0, []))

        box = Box(3, [("planet", 1, 2, 3)])
        loads.balance(box, [(5, 2)], [(3, 0)], 1, 2)[1].append("more")
        loads.balance(box, [(5, 2)], [(3, 0)], 1, 2)[2].append("more")
        self.assertEqual(loads.balance(box, [(5, 2)], [(3, 0)], 1, 2), ((-7, 2), [(-1, 1)], [(5, 2)]))

    def test_results_of_the_package_may_be_passed(self):
        box = Box(3, [("planet", 1, 2, 3)])
        told = [(10 ** 40 + 1, 10 ** 39)]
        speeds = motions.speeds_of(box, told, [(3, 0)], 1)
        self.assertIs(motions.holds(box, told, [(3, 0)], speeds), True)
        self.assertEqual(Box(box.shafts, list(box.works)), box)
