"""The examples of the document, block by block."""

import doctest
import unittest

EXAMPLES = [
    """
>>> from planetlocks.webs import apart, is_tree, judge_ring, tree_count, tree_sign
>>> [is_tree(2, [(2, 1), (1, 0)]), tree_sign(2, [(2, 1), (1, 0)]), tree_count(2, [(1, 0), (2, 0), (2, 1)]), judge_ring(2, [(1, 0), (0, 1)], [(0, -1), (1, -1)]), apart(3, [(3, 2)])]
[True, -1, 3, True, [1, 2, 3]]
    """,
    """
>>> from planetlocks.forms import Form, never_below, sense_of, with_told
>>> form = Form([((0, 1), 1), ((1,), -2), ((), 0)])
>>> [form.terms, sense_of(form), form([(3, 1), (1, 2)]), with_told(form, 0, (5, 2)).terms, never_below(form, 0)]
[[((0, 1), 1), ((1,), -2)], 'both', (1, 2), [((1,), 1)], ((2, 1), None)]
    """,
    """
>>> from planetlocks.boxes import Box
>>> from planetlocks.trees import choices_of, driven, tied, tree_form
>>> set_of = Box(3, [("planet", 1, 2, 3)])
>>> [tree_form(set_of, [None], [(3, 0)], [(1, 0)]).terms, tree_form(set_of, [(5, 2)], [(3, 0)], [(1, 0)]).terms, choices_of(set_of, [(3, 0)], [(2, 0)])]
[[((), -1), ((0,), -1)], [((), -7)], [((0,), -1)]]
>>> [driven(set_of, [None], [(3, 0)], 1), driven(Box(2, [("planet", 1, 2, 0)]), [None], [], 2), tied(set_of, [None], [(2, 1), (3, 0)])]
['all', 'all', 'all']
    """,
    """
>>> from planetlocks.boxes import Box
>>> from planetlocks.ranges import compared, slip_range, speed_range, sure_order
>>> set_of = Box(3, [("planet", 1, 2, 3)])
>>> [speed_range(set_of, [None], [(3, 0)], 1, 2), speed_range(set_of, [None], [(2, 0)], 1, 3), speed_range(set_of, [None], [(3, 2)], 1, 3), slip_range(set_of, [(5, 2)], [(3, 0)], 1, 1, 2)]
[((0, 1), (1, 1)), (None, (0, 1)), ((1, 1), (1, 1)), ((5, 7), (5, 7))]
>>> [compared(set_of, [None], [(2, 0)], 1, 3, 0), sure_order(set_of, [None], [(3, 0)], 1)]
['slower', [(1, 0), (1, 2), (1, 3), (2, 0), (2, 3)]]
    """,
    """
>>> from planetlocks.forms import Form
>>> from planetlocks.parts import parts, product_sense
>>> whole = Form([((), -2), ((0,), 2), ((0, 1), 4), ((1,), -4)])
>>> [parts(whole)[0], [one.terms for one in parts(whole)[1]], product_sense([whole, Form([((), 1), ((0,), -1)])])]
[-2, [[((), 1), ((0,), -1)], [((), 1), ((1,), 2)]], 'minus or zero']
    """,
    """
>>> from planetlocks.boxes import Box
>>> from planetlocks.loads import balance, freewheel, load_range, torque_range
>>> from planetlocks.steps import step_sense
>>> set_of = Box(3, [("planet", 1, 2, 3)])
>>> [torque_range(set_of, [None], [(3, 0)], 1, 2), load_range(set_of, [None], [(3, 0)], 1, 2, (3, 0)), balance(set_of, [(5, 2)], [(3, 0)], 1, 2)]
[(None, (-1, 1)), ((0, 1), None), ((-7, 2), [(-1, 1)], [(5, 2)])]
>>> [step_sense(set_of, [None], [(3, 0)], [(2, 1)], 1, 2), freewheel(set_of, [None], [(3, 0)], [(2, 1)], 1, 2)]
['plus', 'plus']
    """,
    """
>>> from planetlocks.boxes import Box
>>> from planetlocks.splits import blend, rest_range, share_range, torque_split
>>> set_of = Box(3, [("planet", 1, 2, 3)])
>>> [share_range(set_of, [None], [], 1, 3, 2), blend(set_of, [None], [], 1, 3, 2), rest_range(set_of, [None], [], 1, 3, 2), torque_split(set_of, [None], [], 1, 3, 2)]
[((0, 1), (1, 1)), 'between', (None, (0, 1)), ((0, 1), None)]
    """,
    """
>>> from planetlocks.boxes import Box
>>> from planetlocks.told import depends, look_plan, ratio_from, told_by
>>> set_of = Box(3, [("planet", 1, 2, 3)])
>>> [told_by(set_of, [([(3, 0)], [(0, 1), (1, 1), (2, 7), (0, 1)])]), depends(set_of, [None], [(3, 0)], 1, 2), ratio_from(set_of, [None], [(3, 0)], 1, 2, (2, 7)), ratio_from(set_of, [None], [(3, 0)], 1, 2, (2, 1)), look_plan(set_of, [None], [[(3, 2)], [(3, 0)]], 1)]
[[(5, 2)], [0], (5, 2), None, [(1, 2, 0)]]
    """,
    """
>>> from planetlocks.boxes import Box
>>> from planetlocks.plans import gears_of, kinds_of, levels, longest_ladder, sure_steps
>>> set_of, offered = Box(3, [("planet", 1, 2, 3)]), [(2, 0), (2, 1), (3, 0)]
>>> [gears_of(set_of, [None], offered, 1), kinds_of(set_of, [None], offered, 1, 2)]
[[[(2, 0)], [(2, 1)], [(3, 0)]], ['still', 'forward', 'forward']]
>>> [sure_steps(set_of, [None], offered, 1, 2), levels(set_of, [None], offered, 1, 2), longest_ladder(set_of, [None], offered, 1, 2)]
[[(0, 1), (0, 2), (2, 1)], [0, 2, 1], [0, 2, 1]]
    """,
    """
>>> from planetlocks.console import Console
>>> console = Console()
>>> [console.execute("bench 1 3 planet 1 2 3"), console.execute("on 3-0"), console.execute("range 2"), console.execute("faster 1 2")]
['loose', 'driven', '0/1..1/1', 'faster']
>>> [console.execute("tell 0 5/2"), console.execute("range 2"), console.execute("undo"), console.execute("ratios")]
['driven', '2/7', 'ok', '?']
    """,
]


class ExamplesTest(unittest.TestCase):
    def test_examples(self):
        self.assertEqual(len(EXAMPLES), 10)
        for at, text in enumerate(EXAMPLES):
            with self.subTest(at=at):
                examples = doctest.DocTestParser().get_doctest(text, {}, "example %d" % at, None, 0)
                result = doctest.DocTestRunner().run(examples)
                self.assertEqual(result.failed, 0)
                self.assertGreater(result.attempted, 1)
