"""What can be seen at a glance of the subset in which the package is written."""

import ast
import builtins
import pathlib
import unittest

PACKAGE = pathlib.Path(__file__).resolve().parent.parent / "ringkiln"

NODES = (
    "Module Expr Constant ImportFrom alias FunctionDef arguments arg ClassDef Return Assign AugAssign If While For Break "
    "Continue Pass Raise Call Name Load Store Attribute Subscript Slice Tuple List Dict ListComp DictComp Lambda "
    "comprehension BinOp "
    "UnaryOp BoolOp Compare IfExp And Or Not USub Add Sub Mult FloorDiv Mod Eq NotEq Lt LtE Gt GtE Is IsNot In NotIn "
    "Try ExceptHandler JoinedStr FormattedValue"
).split()
BUILTINS = "all any bool enumerate int isinstance len list max min range sorted str sum tuple type zip " \
           "LookupError ValueError".split()
METHODS = "append count extend get index items join pop setdefault split".split()
LIBRARY = {"math": ["gcd"]}
AT_ONCE = ("enumerate", "zip", "range", "reversed")
TAKERS = ("all", "any", "enumerate", "list", "max", "min", "sorted", "sum", "tuple", "zip")
NEVER = "mro elements open input law version_info with_traceback add_note register".split()
BARRED = ("typing enum Enum Generic Protocol ABC namedtuple dataclass overload contextmanager attrgetter breakpoint "
          "compile dir eval exec exit getattr globals help id locals os quit setattr super sys vars").split()


def parents_of(tree):
    parents = {}
    for node in ast.walk(tree):
        for child in ast.iter_child_nodes(node):
            parents[child] = node
    return parents


def bound_names(tree):
    """All names that functions, parameters, targets and imports bind."""
    names = [node.id for node in ast.walk(tree) if isinstance(node, ast.Name) and isinstance(node.ctx, ast.Store)]
    names += [node.arg for node in ast.walk(tree) if isinstance(node, ast.arg)]
    names += [node.name for node in ast.walk(tree) if isinstance(node, (ast.FunctionDef, ast.ClassDef))]
    return names + [alias.name for node in ast.walk(tree) if isinstance(node, ast.ImportFrom) for alias in node.names]


class Files(unittest.TestCase):
    def setUp(self):
        self.files = {path: path.read_text(encoding="utf-8") for path in sorted(PACKAGE.glob("*.py"))}
        self.trees = {path: ast.parse(text) for path, text in self.files.items()}

    def each_tree(self, check):
        for path, tree in self.trees.items():
            with self.subTest(file=path.name):
                check(path, tree)

    def test_only_plain_files(self):
        names = [path.name for path in PACKAGE.iterdir() if path.name != "__pycache__"]
        self.assertEqual(sorted(names), [path.name for path in self.files])
        for name in names:
            self.assertRegex(name, r"^(__init__|[a-z]+)\.py$")

    def test_signs_and_sizes(self):
        for path, text in self.files.items():
            with self.subTest(file=path.name):
                lines = text.split("\n")
                self.assertLessEqual(len(lines) - 1, 399)
                self.assertLessEqual(max(len(line) for line in lines), 120)
                self.assertTrue(all(sign == "\n" or " " <= sign <= "~" for sign in text))

        def check(path, tree):
            for node in ast.walk(tree):
                if isinstance(node, ast.FunctionDef):
                    self.assertLessEqual(node.end_lineno - node.lineno + 1, 40, node.name)
                    self.assertTrue(ast.get_docstring(node) or node.name[:2] == "__", node.name)
        self.each_tree(check)

    def test_nodes(self):
        def check(path, tree):
            for node in ast.walk(tree):
                self.assertIn(type(node).__name__, NODES, getattr(node, "lineno", 0))
        self.each_tree(check)

    def test_functions_are_plain(self):
        def check(path, tree):
            for node in ast.walk(tree):
                if isinstance(node, ast.FunctionDef):
                    own = node.args
                    self.assertFalse(node.decorator_list or node.returns or own.vararg or own.kwarg or own.kwonlyargs
                                     or own.posonlyargs or own.defaults or any(one.annotation for one in own.args))
                    inner = [child for child in ast.walk(node) if isinstance(child, ast.FunctionDef)]
                    self.assertEqual(inner, [node])
        self.each_tree(check)

    def test_module_level(self):
        def check(path, tree):
            for place, node in enumerate(tree.body):
                if isinstance(node, ast.Expr):
                    self.assertEqual(place, 0)
                elif isinstance(node, ast.Assign):
                    ast.literal_eval(node.value)
                    self.assertEqual([type(target) for target in node.targets], [ast.Name])
                else:
                    self.assertIsInstance(node, (ast.ImportFrom, ast.FunctionDef, ast.ClassDef))
        self.each_tree(check)

    def test_imports_come_from_where_a_name_is_defined_and_are_used(self):
        def check(path, tree):
            used = [node.id for node in ast.walk(tree) if isinstance(node, ast.Name)]
            for node in tree.body:
                if isinstance(node, ast.ImportFrom) and node.module in LIBRARY:
                    self.assertEqual([(alias.name, alias.asname) for alias in node.names],
                                     [(name, None) for name in LIBRARY[node.module]])
                elif isinstance(node, ast.ImportFrom):
                    self.assertEqual(node.level, 0)
                    there = self.trees[PACKAGE / (node.module.split(".")[1] + ".py")]
                    defined = [own.name for own in there.body if isinstance(own, (ast.FunctionDef, ast.ClassDef))]
                    defined += [own.targets[0].id for own in there.body if isinstance(own, ast.Assign)]
                    for alias in node.names:
                        self.assertIsNone(alias.asname)
                        self.assertIn(alias.name, defined)
                        self.assertIn(alias.name, used)
        self.each_tree(check)

    def test_names(self):
        def check(path, tree):
            imported = [alias.name for node in tree.body if isinstance(node, ast.ImportFrom) for alias in node.names]
            classes = [node.name for node in tree.body if isinstance(node, ast.ClassDef)]
            top = [node.name for node in tree.body if isinstance(node, (ast.FunctionDef, ast.ClassDef))]
            self.assertEqual(len(top + imported), len(set(top + imported)))
            for name in bound_names(tree):
                self.assertNotIn(name, dir(builtins))
                self.assertNotIn(name, NEVER + BARRED)
                self.assertRegex(name, r"^(_|__init__|__eq__|__len__|[A-Za-z][A-Za-z0-9_]*)$")
            for node in ast.walk(tree):
                if isinstance(node, ast.FunctionDef):
                    for name in bound_names(node):
                        self.assertTrue(name == node.name or name not in imported + classes, name)
                if isinstance(node, ast.Name) and isinstance(node.ctx, ast.Load):
                    self.assertNotEqual(node.id, "_")
                    self.assertTrue(node.id not in dir(builtins) or node.id in BUILTINS, node.id)
        self.each_tree(check)

    def test_calls(self):
        def check(path, tree):
            parents = parents_of(tree)
            for node in ast.walk(tree):
                if not isinstance(node, ast.Call):
                    continue
                self.assertEqual(node.keywords, [])
                self.assertFalse(any(isinstance(value, ast.Starred) for value in node.args))
                if isinstance(node.func, ast.Attribute):
                    self.assertIn(node.func.attr, METHODS + self.own_methods())
                    self.assertTrue(node.func.attr != "join" or isinstance(node.func.value, ast.Constant))
                    parent = parents[node]
                    iterated = isinstance(parent, (ast.For, ast.comprehension)) and parent.iter is node
                    self.assertTrue(iterated or node.func.attr != "items", node.lineno)
                elif node.func.id in AT_ONCE:
                    parent = parents[node]
                    iterated = isinstance(parent, (ast.For, ast.comprehension)) and parent.iter is node
                    taken = isinstance(parent, ast.Call) and isinstance(parent.func, ast.Name) \
                        and parent.func.id in TAKERS
                    self.assertTrue(iterated or taken, node.lineno)
                elif node.func.id == "type":
                    self.assertIsInstance(parents[node], ast.Compare)
        self.each_tree(check)

    def own_methods(self):
        """The methods of the classes that are no errors."""
        tree = self.trees[PACKAGE / "board.py"]
        return [node.name for own in tree.body if isinstance(own, ast.ClassDef) for node in own.body
                if isinstance(node, ast.FunctionDef)]

    def test_no_attribute_is_a_method(self):
        self.assertFalse(set(self.own_methods()) & set(METHODS))
        for path, tree in self.trees.items():
            for node in ast.walk(tree):
                if isinstance(node, ast.Attribute) and isinstance(node.ctx, ast.Store):
                    self.assertNotIn(node.attr, METHODS + self.own_methods())
                    self.assertEqual(node.value.id, "self")

    def test_what_is_caught(self):
        owns = [node.name for node in self.trees[PACKAGE / "errors.py"].body if isinstance(node, ast.ClassDef)]

        def check(path, tree):
            for node in ast.walk(tree):
                if isinstance(node, ast.Try):
                    self.assertFalse(node.finalbody or node.orelse)
                    self.assertEqual(len(node.body), 1)
                if isinstance(node, ast.ExceptHandler):
                    self.assertIn(node.type.id, owns)
                    self.assertIsNone(node.name)
                if isinstance(node, ast.Raise):
                    self.assertIn(node.exc.func.id, owns)
        self.each_tree(check)

    def test_is_and_strings(self):
        def check(path, tree):
            for node in ast.walk(tree):
                if isinstance(node, ast.Compare) and isinstance(node.ops[0], (ast.Is, ast.IsNot)):
                    other = node.comparators[0]
                    constant = isinstance(other, ast.Constant) and other.value in (None, True, False)
                    self.assertTrue(constant or other.func.id == "type")
                if isinstance(node, ast.Constant) and isinstance(node.value, str):
                    self.assertNotIn("%", node.value)
        self.each_tree(check)


if __name__ == "__main__":
    unittest.main()
