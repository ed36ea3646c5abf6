"""The form of the package's files, as far as it can be seen by plain looks at them."""

import ast
import builtins
import pathlib
import re
import unittest

PACKAGE = pathlib.Path(__file__).resolve().parent.parent / "alarmtable"
FILES = sorted(PACKAGE.glob("*.py"))
UNSAID = ("type typing typing_extensions enum Enum IntEnum StrEnum Flag IntFlag Generic Protocol ABC ABCMeta namedtuple "
          "NamedTuple TypedDict TYPE_CHECKING abstractmethod").split()
BUILT_IN = ("len range enumerate zip min max sum abs sorted reversed int str bool list tuple dict set frozenset "
            "isinstance ord repr any all divmod").split()
METHODS = ("append clear copy count endswith extend find get index insert items join keys pop remove replace reverse "
           "setdefault split update values bit_length").split()
SHAPES = (ast.Module, ast.FunctionDef, ast.ClassDef, ast.arguments, ast.arg, ast.ImportFrom, ast.alias, ast.Assign,
          ast.AugAssign, ast.If, ast.While, ast.For, ast.Return, ast.Expr, ast.Call, ast.keyword, ast.Attribute,
          ast.Subscript, ast.Slice, ast.Name, ast.Constant, ast.List, ast.Tuple, ast.Dict, ast.ListComp,
          ast.comprehension, ast.IfExp, ast.BoolOp, ast.BinOp, ast.UnaryOp, ast.Compare, ast.expr_context, ast.operator,
          ast.boolop, ast.unaryop, ast.cmpop)


class Language(unittest.TestCase):
    def trees(self):
        return [(path.name, ast.parse(path.read_text(encoding="utf-8"))) for path in FILES]

    def test_nothing_but_plain_files(self):
        there = [path for path in PACKAGE.iterdir() if path.name != "__pycache__"]
        self.assertEqual(sorted(there), FILES)
        self.assertIn(PACKAGE / "__init__.py", FILES)

    def test_signs_and_sizes(self):
        for path in FILES:
            text = path.read_text(encoding="utf-8")
            self.assertRegex(text, r"\A[ -~\n]*\Z", path.name)
            self.assertLessEqual(len(text.splitlines()), 400, path.name)
            self.assertLessEqual(max(map(len, text.splitlines())), 120, path.name)

    def test_words_that_stand_nowhere(self):
        for path in FILES:
            words = re.findall(r"\w+", path.read_text(encoding="utf-8"))
            self.assertEqual([word for word in words if word in UNSAID], [], path.name)

    def test_shapes(self):
        for name, tree in self.trees():
            for node in ast.walk(tree):
                self.assertIsInstance(node, SHAPES, name)
                if isinstance(node, ast.BinOp):
                    self.assertNotIsInstance(node.op, (ast.Div, ast.Pow, ast.MatMult), name)
                if isinstance(node, ast.Assign):
                    self.assertEqual(len(node.targets), 1, name)
                    self.assertNotIsInstance(node.targets[0], (ast.Tuple, ast.List), name)
                if isinstance(node, ast.Constant):
                    self.assertIn(type(node.value), (int, str, bool, type(None)), name)
                if isinstance(node, (ast.For, ast.While)):
                    self.assertEqual(node.orelse, [], name)

    def test_functions(self):
        for name, tree in self.trees():
            for node in ast.walk(tree):
                if isinstance(node, ast.FunctionDef):
                    self.assertLessEqual(node.end_lineno - node.lineno + 1, 40, (name, node.name))
                    self.assertEqual(node.decorator_list, [], (name, node.name))
                    self.assertIsNone(node.args.vararg or node.args.kwarg, (name, node.name))
                    self.assertTrue(node.name == "__init__" or not node.name.startswith("_"), (name, node.name))

    def test_imports(self):
        for name, tree in self.trees():
            for node in ast.walk(tree):
                if isinstance(node, ast.ImportFrom):
                    self.assertRegex(node.module, r"\Aalarmtable\.\w+\Z", name)
                    self.assertEqual(node.level, 0, name)
                    source = ast.parse((PACKAGE / (node.module.split(".")[1] + ".py")).read_text(encoding="utf-8"))
                    bound = self.bound(source)
                    self.assertEqual([alias.name for alias in node.names if alias.name not in bound], [], name)

    def test_no_two_files_draw_from_one_another(self):
        drawn = {}
        for name, tree in self.trees():
            rows = [node.module for node in ast.walk(tree) if isinstance(node, ast.ImportFrom)]
            drawn[name] = {row.split(".")[1] + ".py" for row in rows}
        while drawn:
            free = [name for name in drawn if not drawn[name] & set(drawn)]
            self.assertNotEqual(free, [], sorted(drawn))
            for name in free:
                drawn.pop(name)

    def test_names_are_not_bound_anew(self):
        for name, tree in self.trees():
            rows = [node for node in tree.body if isinstance(node, ast.ImportFrom)]
            imported = [alias.name for node in rows for alias in node.names]
            classes = [node.name for node in tree.body if isinstance(node, ast.ClassDef)]
            top = self.bound(tree) + imported
            self.assertEqual(len(top), len(set(top)), name)
            for node in ast.walk(tree):
                if isinstance(node, ast.arg):
                    self.assertNotIn(node.arg, imported + classes, name)
                if isinstance(node, ast.Name) and isinstance(node.ctx, ast.Store):
                    self.assertNotIn(node.id, imported + classes, name)

    def bound(self, tree):
        """The names that a file itself defines at its top."""
        defined = [node.name for node in tree.body if isinstance(node, (ast.FunctionDef, ast.ClassDef))]
        return defined + [node.targets[0].id for node in tree.body if isinstance(node, ast.Assign)]

    def test_names_of_pythons_own(self):
        for name, tree in self.trees():
            known = self.bound(tree) + BUILT_IN
            for node in ast.walk(tree):
                if isinstance(node, ast.ImportFrom):
                    known += [alias.name for alias in node.names]
                if isinstance(node, ast.arg):
                    self.assertNotIn(node.arg, dir(builtins), name)
                    known.append(node.arg)
                if isinstance(node, ast.Name) and isinstance(node.ctx, ast.Store):
                    self.assertNotIn(node.id, dir(builtins), name)
                    known.append(node.id)
            for node in ast.walk(tree):
                if isinstance(node, ast.Name):
                    self.assertIn(node.id, known, name)

    def test_methods_are_own_or_listed(self):
        own, values = [], []
        for name, tree in self.trees():
            for node in ast.walk(tree):
                if isinstance(node, ast.ClassDef):
                    own += [part.name for part in node.body if isinstance(part, ast.FunctionDef)]
                if isinstance(node, ast.Attribute) and isinstance(node.ctx, ast.Store):
                    values.append(node.attr)
        self.assertEqual([name for name in own if name in values], [])
        python_own = [set(dir(kind)) for kind in (str, int, list, dict, set, bytes)]
        self.assertEqual([name for name in values if any(name in names for names in python_own)], [])
        for name, tree in self.trees():
            for node in ast.walk(tree):
                if isinstance(node, ast.Call) and isinstance(node.func, ast.Attribute):
                    self.assertIn(node.func.attr, own + METHODS, name)


if __name__ == "__main__":
    unittest.main()
