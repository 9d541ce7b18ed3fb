"""The package keeps to its small part of Python: the rules that a short look can tell."""

import ast
import os
import re
import unittest

PACKAGE = os.path.join(os.path.dirname(os.path.dirname(os.path.abspath(__file__))), "beaconvale")
WORDS = (
    "type", "typing", "typing_extensions", "enum", "Enum", "IntEnum", "StrEnum", "Flag", "IntFlag",
    "Generic", "Protocol", "ABC", "ABCMeta", "namedtuple", "NamedTuple", "TypedDict", "TYPE_CHECKING",
    "abstractmethod",
)
WORD_PARTS = ("dataclass", "overload", "contextmanager")
# Whatever is not listed here is outside the part of Python that the package keeps to.
NODES = (
    ast.Module, ast.ImportFrom, ast.alias, ast.FunctionDef, ast.arguments, ast.arg, ast.ClassDef,
    ast.Assign, ast.AugAssign, ast.If, ast.While, ast.For, ast.Return, ast.Break, ast.Continue, ast.Pass,
    ast.Raise, ast.Try, ast.ExceptHandler, ast.Expr, ast.Call, ast.keyword, ast.Constant, ast.Name,
    ast.Attribute, ast.Subscript, ast.Slice, ast.List, ast.Tuple, ast.Dict, ast.ListComp, ast.comprehension,
    ast.BinOp, ast.UnaryOp, ast.BoolOp, ast.Compare, ast.IfExp, ast.Lambda, ast.JoinedStr, ast.FormattedValue,
    ast.expr_context, ast.boolop, ast.unaryop, ast.cmpop,
    ast.Add, ast.Sub, ast.Mult, ast.FloorDiv, ast.Mod, ast.Pow,
    ast.BitAnd, ast.BitOr, ast.BitXor, ast.LShift, ast.RShift,
)


def texts():
    found = {}
    for name in sorted(os.listdir(PACKAGE)):
        if name != "__pycache__":
            with open(os.path.join(PACKAGE, name), encoding="utf-8", newline="") as file:
                found[name] = file.read()
    return found


class FormTest(unittest.TestCase):
    def test_files(self):
        self.assertIn("__init__.py", texts())
        for name in texts():
            self.assertRegex(name, r"^([a-z][a-z0-9_]*|__init__)\.py$")

    def test_signs_and_sizes(self):
        for name, text in texts().items():
            self.assertRegex(text, r"^[ -~\n]*$", name)
            rows = text.split("\n")
            self.assertLessEqual(len(rows), 400, name)
            self.assertLessEqual(max(len(row) for row in rows), 120, name)

    def test_words(self):
        for name, text in texts().items():
            for word in WORDS:
                self.assertIsNone(re.search(rf"\b{word}\b", text), (name, word))
            for part in WORD_PARTS:
                self.assertNotIn(part, text, name)

    def test_nodes(self):
        for name, text in texts().items():
            for node in ast.walk(ast.parse(text)):
                where = (name, getattr(node, "lineno", None), node)
                self.assertIsInstance(node, NODES, where)
                if isinstance(node, ast.Constant):
                    self.assertIsInstance(node.value, (int, str, type(None)), where)
                if isinstance(node, (ast.For, ast.While)):
                    self.assertEqual(node.orelse, [], where)
                if isinstance(node, ast.FunctionDef):
                    self.assertLessEqual(node.end_lineno - node.lineno + 1, 40, where)
                    self.assertEqual(node.decorator_list, [], where)

    def test_imports_are_of_the_package_alone(self):
        for name, text in texts().items():
            for node in ast.walk(ast.parse(text)):
                if isinstance(node, ast.ImportFrom):
                    self.assertEqual(node.level, 0, name)
                    self.assertRegex(node.module, r"^beaconvale\.[a-z]+$", name)


if __name__ == "__main__":
    unittest.main()
