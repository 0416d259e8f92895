"""Rules of the language that every file of the package keeps and that are easily broken."""

import ast
import builtins
import os
import unittest

import planetlocks

FOLDER = os.path.dirname(planetlocks.__file__)
LIBRARY = {"heapq": {"heappush", "heappop"}, "math": {"gcd", "lcm"}}
INTERFACE = {
    "errors.py": "BoxError InvalidShafts InvalidBox InvalidWork InvalidIndex InvalidDifferences InvalidLocks "
                 "InvalidLock InvalidGears InvalidShaft InvalidOrder InvalidRatios InvalidFraction InvalidSpeeds "
                 "InvalidLooks InvalidForm InvalidNumber Unbalanced NotDriven NotNeighbours SharedUnknown "
                 "NotTelling NotEngaged NothingToUndo InvalidCommand NotReady Contradiction Refused InvalidWords",
    "webs.py": "is_tree tree_sign holding_order judge_order ring_of judge_ring apart tree_count tree_sets",
    "boxes.py": "Box is_fraction is_work is_locks is_ratios first_difference second_difference sense_at with_work "
                "without_work turned renamed renamed_locks",
    "motions.py": "holds freedom motions speeds_of still alike",
    "forms.py": "Form sense_of unknowns_of above below at_zero with_told never_below",
    "trees.py": "tree_form choices_of driven undriven tied untied",
    "ranges.py": "speed_range slip_range compared ratios_for sure_order same_speeds",
    "parts.py": "parts product product_sense",
    "steps.py": "changed step_forms step_sense step_at ladder",
    "loads.py": "balance is_balance torque_range load_range work_load_range power_sense freewheel",
    "splits.py": "split_driven unsplit shares share_range sum_range blend rest_range torque_split",
    "told.py": "told_by depends ratio_from look_plan",
    "plans.py": "gears_of kinds_of sure_steps levels longest_ladder judge_ladder",
    "live.py": "Bench SureBench",
    "words.py": "write_box write_ratios write_locks write_range read_box read_ratios read_locks",
    "console.py": "Console",
}

METHODS = {
    "Box": "__init__ shafts works __len__ __add__ __eq__",
    "Form": "__init__ terms __len__ __iter__ __add__ __sub__ __neg__ __mul__ __call__ __eq__",
    "Bench": "__init__ box inlet locks ratios word on off shift tell undo range_of __len__ twin __eq__",
    "SureBench": "__init__ on off shift tell twin",
    "Console": "__init__ execute",
}
ALL_BUILTINS = {word for word in dir(builtins) if not word.startswith("_")}
# L8, less what is not used here.
BUILTINS = ("len range enumerate zip min max sum abs sorted reversed int str bool list tuple dict set isinstance ord "
            "repr any all divmod iter type super property ValueError NotImplemented TypeError True False None").split()
# L25.
BUILTIN_METHODS = ("append clear copy count endswith extend find get index insert isalnum isalpha isdigit islower "
                   "isspace isupper items join keys ljust lower lstrip partition pop remove replace reverse rfind "
                   "rjust rpartition rsplit rstrip setdefault split splitlines startswith strip update upper values "
                   "zfill bit_length").split()
# L17, in code and strings.
BARRED = ("register mro elements open input law version_info with_traceback add_note attrgetter breakpoint builtins "
          "compile copyright credits delattr dir eval exec exit gc getattr globals hasattr help id importlib license "
          "locals methodcaller os quit setattr vars sys typing enum Enum Generic Protocol ABC namedtuple dataclass "
          "overload contextmanager lambda global nonlocal async await").split()


def files():
    for name in sorted(os.listdir(FOLDER)):
        if name != "__pycache__":
            with open(os.path.join(FOLDER, name), encoding="utf-8") as file:
                yield name, file.read()


def nodes(*kinds):
    """Tuples (name of the file, node) of all nodes of these kinds."""
    for name, text in files():
        for node in ast.walk(ast.parse(text)):
            if isinstance(node, kinds):
                yield name, node


def bound_names(tree):
    """All names that are bound anywhere but by imports and classes: functions, parameters, variables."""
    found = set()
    for node in ast.walk(tree):
        if isinstance(node, ast.FunctionDef):
            found |= {node.name} | {arg.arg for arg in node.args.args + node.args.kwonlyargs}
        elif isinstance(node, ast.Name) and not isinstance(node.ctx, ast.Load):
            found.add(node.id)
    return found


class LanguageTest(unittest.TestCase):
    def test_sizes_and_signs(self):
        for name, text in files():
            with self.subTest(name=name):
                self.assertRegex(name, r"^[a-z_]+\.py$")
                self.assertNotIn(name[:-3], ALL_BUILTINS)
                self.assertTrue(all(" " <= sign <= "~" or sign == "\n" for sign in text))
                self.assertLess(len(text.splitlines()), 400)
                self.assertLessEqual(max(len(line) for line in text.splitlines()), 120)
        for name, node in nodes(ast.FunctionDef):
            self.assertLessEqual(node.end_lineno - node.lineno + 1, 40, (name, node.name))

    def test_imports(self):
        ahead = {}
        for name, text in files():
            tree = ast.parse(text)
            used = {node.id for node in ast.walk(tree) if isinstance(node, ast.Name)}
            ahead[name] = set()
            for node in ast.walk(tree):
                self.assertNotIsInstance(node, ast.Import)
                if not isinstance(node, ast.ImportFrom):
                    continue
                words = {alias.name for alias in node.names}
                with self.subTest(name=name, module=node.module):
                    self.assertEqual(node.level, 0)
                    self.assertTrue(all(alias.asname is None for alias in node.names))
                    self.assertLessEqual(words, used)
                    if node.module in LIBRARY:
                        self.assertLessEqual(words, LIBRARY[node.module])
                        continue
                    self.assertTrue(node.module.startswith("planetlocks."))
                    file = node.module.split(".")[1] + ".py"
                    ahead[name].add(file)
                    body = ast.parse(dict(files())[file]).body
                    defined = {part.name for part in body if isinstance(part, (ast.FunctionDef, ast.ClassDef))}
                    defined |= {part.targets[0].id for part in body if isinstance(part, ast.Assign)}
                    self.assertLessEqual(words, defined)
        while ahead:
            free = [name for name in ahead if not ahead[name] & set(ahead)]
            self.assertTrue(free, ahead)
            ahead = {name: ahead[name] for name in ahead if name not in free}

    def test_module_level(self):
        for name, text in files():
            for node in ast.parse(text).body:
                with self.subTest(name=name, line=node.lineno):
                    self.assertIsInstance(node, (ast.Expr, ast.ImportFrom, ast.FunctionDef, ast.ClassDef, ast.Assign))
                    if isinstance(node, ast.Expr):
                        self.assertIsInstance(node.value, ast.Constant)

    def test_statements_and_signs(self):
        barred = (ast.Div, ast.Global, ast.AsyncFunctionDef, ast.GeneratorExp, ast.Starred, ast.Lambda, ast.Yield,
                  ast.Set, ast.YieldFrom, ast.With, ast.Match, ast.NamedExpr, ast.Nonlocal, ast.Delete, ast.Assert,
                  ast.AnnAssign)
        for name, node in nodes(ast.AST):
            with self.subTest(name=name, line=getattr(node, "lineno", 0)):
                self.assertNotIsInstance(node, barred)
                if isinstance(node, ast.Constant):
                    self.assertNotIsInstance(node.value, (float, bytes))
                    if isinstance(node.value, str):
                        self.assertNotIn("%", node.value)
                if isinstance(node, ast.FunctionDef):
                    self.assertTrue(all(isinstance(one, ast.Name) and one.id == "property"
                                        for one in node.decorator_list))
                    self.assertIsNone(node.args.vararg or node.args.kwarg or node.returns)
                if isinstance(node, ast.Compare):
                    self.assertTrue(all(not isinstance(sign, (ast.Is, ast.IsNot)) or (
                        isinstance(other, ast.Constant) or isinstance(node.left, ast.Call))
                        for sign, other in zip(node.ops, node.comparators)))

    def test_only_own_errors_are_caught(self):
        for name, node in nodes(ast.ExceptHandler):
            self.assertIn(node.type.id, INTERFACE["errors.py"].split())

    def test_raised_on_the_spot(self):
        for name, node in nodes(ast.Raise):
            self.assertIsInstance(node.exc, ast.Call)
            self.assertIn(node.exc.func.id, INTERFACE["errors.py"].split())

    def test_builtins(self):
        for name, node in nodes(ast.Name):
            if node.id in ALL_BUILTINS:
                with self.subTest(name=name, line=node.lineno):
                    self.assertIn(node.id, BUILTINS)

    def test_names(self):
        """L15: nothing is called like a builtin, nothing in a file like a class or an import of it."""
        for name, text in files():
            tree = ast.parse(text)
            taken = {node.name for node in ast.walk(tree) if isinstance(node, ast.ClassDef)}
            taken |= {alias.name for node in ast.walk(tree) if isinstance(node, ast.ImportFrom) for alias in node.names}
            methods = {part.name for node in ast.walk(tree) if isinstance(node, ast.ClassDef) for part in node.body
                       if isinstance(part, ast.FunctionDef)}
            with self.subTest(name=name):
                self.assertEqual((bound_names(tree) - methods) & taken, set())
                self.assertEqual(bound_names(tree) & ALL_BUILTINS, set())
                self.assertEqual(bound_names(tree) & set(BARRED), set())
                self.assertEqual([word for word in bound_names(tree) - methods if word.startswith("__")], [])

    def test_methods(self):
        own = {node.name for _, node in nodes(ast.FunctionDef)}
        for name, node in nodes(ast.Call):
            if isinstance(node.func, ast.Attribute):
                with self.subTest(name=name, line=node.lineno):
                    self.assertIn(node.func.attr, set(BUILTIN_METHODS) | own)
                    if node.func.attr in BUILTIN_METHODS:
                        self.assertEqual(node.keywords, [])

    def test_sets_are_not_kept(self):
        """L24: a set stands only in sorted or len."""
        for name, text in files():
            tree = ast.parse(text)
            inner = set()
            for node in ast.walk(tree):
                if isinstance(node, ast.Call) and isinstance(node.func, ast.Name) and node.func.id in ("sorted", "len"):
                    inner |= {id(arg) for arg in node.args}
            for node in ast.walk(tree):
                made = isinstance(node, ast.Call) and isinstance(node.func, ast.Name) and node.func.id == "set"
                if made or isinstance(node, ast.SetComp):
                    self.assertIn(id(node), inner, (name, node.lineno))

    def test_interface_is_defined_in_its_files(self):
        texts = dict(files())
        for name, words in INTERFACE.items():
            body = ast.parse(texts[name]).body
            defined = [node.name for node in body if isinstance(node, (ast.FunctionDef, ast.ClassDef))]
            self.assertLessEqual(set(words.split()), set(defined))

    def test_methods_are_defined_in_their_classes(self):
        found = {}
        for _, node in nodes(ast.ClassDef):
            found[node.name] = {part.name for part in node.body if isinstance(part, ast.FunctionDef)}
        for name, words in METHODS.items():
            self.assertLessEqual(set(words.split()), found[name])
