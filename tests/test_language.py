"""The package's files keep to those rules of LANGUAGE.md that a walk through their syntax can see."""

import ast
import builtins
import pathlib
import re
import unittest

import testplans

FOLDER = pathlib.Path(testplans.__file__).parent

STATEMENTS = (ast.FunctionDef, ast.ClassDef, ast.Assign, ast.AugAssign, ast.If, ast.While, ast.For, ast.Return,
              ast.Break, ast.Continue, ast.Pass, ast.Raise, ast.Try, ast.Expr, ast.ImportFrom)
EXPRESSIONS = (ast.Constant, ast.Name, ast.Attribute, ast.Subscript, ast.Slice, ast.Call, ast.Compare, ast.BoolOp,
               ast.BinOp, ast.UnaryOp, ast.IfExp, ast.List, ast.Tuple, ast.Dict, ast.ListComp, ast.JoinedStr,
               ast.FormattedValue, ast.Lambda)
OWN_NAMES = ("len range enumerate zip min max sum abs sorted reversed int str bool list tuple dict set frozenset "
             "isinstance ord repr any all divmod Exception ValueError TypeError KeyError IndexError LookupError "
             "ZeroDivisionError ArithmeticError OverflowError RuntimeError NotImplementedError AttributeError "
             "StopIteration").split()
METHODS = ("append clear copy count endswith extend find get index insert isalnum isalpha isdigit islower isspace "
           "isupper items join keys ljust lower lstrip partition pop remove replace reverse rfind rjust rpartition "
           "rsplit rstrip setdefault split splitlines startswith strip update upper values zfill bit_length").split()
NO_VALUES = "items keys values pop update append clear extend insert remove reverse setdefault sort args encode format"
NO_WORDS = (r"\b(type|typing|typing_extensions|enum|Enum|IntEnum|StrEnum|Flag|IntFlag|Generic|Protocol|ABC|ABCMeta"
            r"|namedtuple|NamedTuple|TypedDict|TYPE_CHECKING|abstractmethod)\b|dataclass|overload|contextmanager")
NO_NAMES = ("register mro elements open input version_info with_traceback add_note attrgetter breakpoint builtins "
            "compile copyright credits delattr dir eval exec exit gc getattr globals hasattr help id importlib license "
            "locals methodcaller os quit setattr super type vars sys").split()


def own_files():
    return sorted(FOLDER.glob("*.py"))


class Language(unittest.TestCase):

    def each_node(self):
        for path in own_files():
            for node in ast.walk(ast.parse(path.read_text("ascii"))):
                yield path.name, node

    def test_files(self):
        for path in FOLDER.iterdir():
            if path.name != "__pycache__":
                self.assertRegex(path.name, r"^(__init__|[a-z][a-z0-9_]*)\.py$")
        self.assertIn("planning.py", [path.name for path in own_files()])

    def test_signs_and_lengths(self):
        for path in own_files():
            text = path.read_bytes().decode("ascii")
            self.assertTrue(all(sign == "\n" or " " <= sign <= "~" for sign in text), path.name)
            lines = text.splitlines()
            self.assertLess(len(lines), 400, path.name)
            self.assertLessEqual(max(len(line) for line in lines), 120, path.name)
            self.assertIsNone(re.search(NO_WORDS, text), path.name)

    def test_statements_and_expressions(self):
        for name, node in self.each_node():
            where = (name, getattr(node, "lineno", 0))
            if isinstance(node, ast.stmt):
                self.assertIsInstance(node, STATEMENTS, where)
            if isinstance(node, ast.expr):
                self.assertIsInstance(node, EXPRESSIONS, where)
            if isinstance(node, (ast.For, ast.While)):
                self.assertEqual(node.orelse, [], where)
            if isinstance(node, ast.Assign):
                self.assertEqual(len(node.targets), 1, where)
            if isinstance(node, (ast.Div, ast.MatMult, ast.Pow)):
                self.fail(where)
            if isinstance(node, ast.Constant):
                self.assertIn(type(node.value), (int, str, bool, type(None)), where)
            if isinstance(node, ast.FormattedValue):
                self.assertIsInstance(node.value, ast.Name, where)
                self.assertIsNone(node.format_spec, where)
            if isinstance(node, ast.ListComp):
                self.assertEqual(len(node.generators), 1, where)
                self.assertLessEqual(len(node.generators[0].ifs), 1, where)

    def test_functions_and_classes(self):
        for name, node in self.each_node():
            where = (name, getattr(node, "lineno", 0))
            if isinstance(node, ast.FunctionDef):
                self.assertLessEqual(node.end_lineno - node.lineno + 1, 40, where)
                self.assertEqual((node.decorator_list, node.returns), ([], None), where)
                rest = node.args
                self.assertEqual((rest.vararg, rest.kwarg, rest.kwonlyargs, rest.posonlyargs), (None, None, [], []))
            if isinstance(node, ast.ClassDef):
                self.assertLessEqual(len(node.bases), 1, where)
                self.assertEqual((node.keywords, node.decorator_list), ([], []), where)
                for part in node.body:
                    self.assertTrue(isinstance(part, ast.FunctionDef) or isinstance(part, ast.Expr), where)

    def test_imports(self):
        drawn = {}
        for name, node in self.each_node():
            if isinstance(node, ast.ImportFrom):
                self.assertEqual(node.level, 0)
                self.assertRegex(node.module, r"^testplans\.[a-z]+$")
                drawn.setdefault(name, []).append(node.module.split(".")[1] + ".py")
                defined = ast.parse((FOLDER / drawn[name][-1]).read_text("ascii")).body
                names = [part.name for part in defined if hasattr(part, "name")]
                names += [part.targets[0].id for part in defined if isinstance(part, ast.Assign)]
                for alias in node.names:
                    self.assertIn(alias.name, names, name)
                    self.assertIsNone(alias.asname, name)
        left = [path.name for path in own_files()]
        while left:
            free = [name for name in left if not any(other in left for other in drawn.get(name, []))]
            self.assertNotEqual(free, [], "files that draw from one another: %s" % left)
            left = [name for name in left if name not in free]

    def test_names(self):
        methods = set()
        values = set()
        for name, node in self.each_node():
            where = (name, getattr(node, "lineno", 0))
            if isinstance(node, ast.ClassDef):
                methods.update(part.name for part in node.body if isinstance(part, ast.FunctionDef))
            if isinstance(node, ast.Attribute) and isinstance(node.ctx, ast.Store):
                values.add(node.attr)
            bound = []
            if isinstance(node, (ast.FunctionDef, ast.ClassDef)):
                bound.append(node.name)
            if isinstance(node, ast.arg):
                bound.append(node.arg)
            if isinstance(node, ast.ExceptHandler) and node.name:
                bound.append(node.name)
            if isinstance(node, ast.Name) and isinstance(node.ctx, ast.Store):
                bound.append(node.id)
            if isinstance(node, ast.Name) and hasattr(builtins, node.id):
                self.assertIn(node.id, OWN_NAMES, where)
            for word in bound:
                if word != "__init__":
                    self.assertNotIn(word, NO_NAMES, where)
                    self.assertFalse(hasattr(builtins, word), where)
                    self.assertFalse(word.startswith("_"), where)
        self.assertEqual(methods & values, set())
        self.assertEqual(values & set(NO_VALUES.split()), set())
        for name, node in self.each_node():
            if isinstance(node, ast.Attribute):
                self.assertIn(node.attr, methods | values | set(METHODS), (name, node.lineno))


if __name__ == "__main__":
    unittest.main()
