"""The package keeps to its small part of Python: what a plain walk over the code can see of it."""

import ast
import builtins
import pathlib
import re
import unittest

ROOT = pathlib.Path(__file__).resolve().parent.parent
PACKAGE = ROOT / "dialvault"

OWN_NAMES = set(
    "len range enumerate zip min max sum abs sorted reversed int str bool list tuple dict set frozenset isinstance "
    "ord repr any all divmod Exception ValueError TypeError KeyError IndexError LookupError ZeroDivisionError "
    "ArithmeticError OverflowError RuntimeError NotImplementedError AttributeError StopIteration".split()
)
METHODS = set(
    "append clear copy count endswith extend find get index insert isalnum isalpha isdigit islower isspace isupper "
    "items join keys ljust lower lstrip partition pop remove replace reverse rfind rjust rpartition rsplit rstrip "
    "setdefault split splitlines startswith strip update upper values zfill bit_length".split()
)
SPECIAL = {"__init__", "__eq__", "__repr__", "__str__", "__len__"}
WORDS_OUT = re.compile(
    r"\b(type|typing|typing_extensions|enum|Enum|IntEnum|StrEnum|Flag|IntFlag|Generic|Protocol|ABC|ABCMeta|namedtuple|"
    r"NamedTuple|TypedDict|TYPE_CHECKING|abstractmethod)\b|dataclass|overload|contextmanager"
)
NAMES_OUT = set(
    "register mro elements open input version_info with_traceback add_note attrgetter breakpoint builtins compile "
    "copyright credits delattr dir eval exec exit gc getattr globals hasattr help id importlib license locals "
    "methodcaller os quit setattr super type vars sys chr format format_map".split()
)
NODES = tuple(getattr(ast, name) for name in (
    "Module FunctionDef ClassDef Return Assign AugAssign For While If Raise Try ExceptHandler ImportFrom Expr Pass "
    "Break Continue BoolOp And Or BinOp Add Sub Mult FloorDiv Mod Pow LShift RShift BitOr BitXor BitAnd UnaryOp "
    "Invert Not UAdd USub Lambda IfExp Dict ListComp comprehension Compare Eq NotEq Lt LtE Gt GtE Is IsNot In NotIn "
    "Call keyword JoinedStr FormattedValue Constant Attribute Subscript Name List Tuple Slice Load Store arguments "
    "arg alias"
).split())
KEYWORDS = {
    "sorted": ("key", "reverse"), "min": ("key", "default"), "max": ("key", "default"), "sum": ("start",),
    "enumerate": ("start",), "zip": ("strict",),
}
WALKED = {"zip", "enumerate", "reversed", "range"}
WALKERS = {"list", "tuple", "dict", "sorted", "sum", "any", "all", "enumerate", "zip", "min", "max"}


def files():
    return sorted(PACKAGE.glob("*.py"))


def texts():
    return [(path.name, path.read_text(encoding="utf-8")) for path in files()]


def trees():
    return [(name, ast.parse(text)) for name, text in texts()]


def nodes(kind):
    return [(name, node) for name, tree in trees() for node in ast.walk(tree) if isinstance(node, kind)]


def is_docstring(node):
    return isinstance(node, ast.Expr) and isinstance(node.value, ast.Constant) and isinstance(node.value.value, str)


def is_plain(node, defs):
    if isinstance(node, ast.Constant):
        return node.value is None or isinstance(node.value, (bool, int, str))
    if isinstance(node, ast.UnaryOp):
        return isinstance(node.op, ast.USub) and is_plain(node.operand, defs)
    if isinstance(node, (ast.List, ast.Tuple)):
        return all(is_plain(part, defs) for part in node.elts)
    if isinstance(node, ast.Dict):
        return all(is_plain(part, defs) for part in node.keys + node.values)
    return isinstance(node, ast.Name) and node.id in defs


def bound_names(tree):
    names = []
    for node in ast.walk(tree):
        if isinstance(node, (ast.FunctionDef, ast.ClassDef)):
            names.append(node.name)
        elif isinstance(node, ast.arg):
            names.append(node.arg)
        elif isinstance(node, ast.Name) and isinstance(node.ctx, ast.Store):
            names.append(node.id)
        elif isinstance(node, ast.Attribute) and isinstance(node.ctx, ast.Store):
            names.append(node.attr)
        elif isinstance(node, ast.ExceptHandler) and node.name:
            names.append(node.name)
    return names


def locals_of(tree):
    names = []
    for node in ast.walk(tree):
        if isinstance(node, (ast.FunctionDef, ast.Lambda)):
            names += [arg.arg for arg in node.args.args]
            names += [
                inner.id for inner in ast.walk(node)
                if isinstance(inner, ast.Name) and isinstance(inner.ctx, ast.Store)
            ]
    return names


class Language(unittest.TestCase):
    def none(self, found):
        self.assertEqual(found, [])

    def test_folder_holds_plain_files_alone(self):
        self.assertIn(PACKAGE / "__init__.py", files())
        names = sorted(path.name for path in PACKAGE.iterdir() if path.name != "__pycache__")
        self.assertEqual(names, [path.name for path in files()])
        self.none([name for name in names if not re.fullmatch(r"[a-z][a-z0-9_]*\.py|__init__\.py", name)])
        self.none([name for name in names if name[:-3] in dir(builtins) or name.startswith("test")])

    def test_signs_and_sizes(self):
        for name, text in texts():
            self.none([sign for sign in text if sign != "\n" and not " " <= sign <= "~"])
            self.assertLessEqual(text.count("\n"), 400, name)
            self.none([(name, line) for line in text.split("\n") if len(line) > 120])
            self.none([(name, word.group()) for word in WORDS_OUT.finditer(text)])

    def test_functions_are_small(self):
        for name, node in nodes(ast.FunctionDef):
            self.assertLessEqual(node.end_lineno - node.lineno + 1, 40, (name, node.name))

    def test_only_the_parts_that_are_in(self):
        for name, tree in trees():
            self.none([(name, type(node).__name__) for node in ast.walk(tree) if not isinstance(node, NODES)])

    def test_imports(self):
        for name, node in nodes(ast.ImportFrom):
            self.assertEqual(node.level, 0, name)
            self.assertTrue(node.module.startswith("dialvault."), (name, node.module))
            home = PACKAGE / (node.module.split(".")[1] + ".py")
            tops = [top.name for top in ast.parse(home.read_text()).body if hasattr(top, "name")]
            consts = [part.id for part in ast.walk(ast.parse(home.read_text())) if isinstance(part, ast.Name)]
            for alias in node.names:
                self.assertIsNone(alias.asname)
                self.assertIn(alias.name, tops + consts, (name, home.name))

    def test_no_two_files_draw_from_one_another(self):
        draws = {name[:-3]: set() for name, tree in trees()}
        for name, node in nodes(ast.ImportFrom):
            draws[name[:-3]].add(node.module.split(".")[1])
        while draws:
            free = [name for name in draws if not draws[name] & set(draws)]
            self.assertTrue(free, draws)
            for name in free:
                del draws[name]

    def test_the_top_of_a_module(self):
        for name, tree in trees():
            defs = []
            names = []
            for place, node in enumerate(tree.body):
                if isinstance(node, (ast.FunctionDef, ast.ClassDef)):
                    names.append(node.name)
                    defs += [node.name] if isinstance(node, ast.FunctionDef) else []
                elif isinstance(node, ast.Assign):
                    self.assertTrue(is_plain(node.value, defs), (name, node.lineno))
                    names += [target.id for target in node.targets]
                elif not isinstance(node, ast.ImportFrom):
                    self.assertTrue(place == 0 and is_docstring(node), (name, node.lineno))
            self.assertEqual(len(names), len(set(names)), name)
            self.none([node.name for node in ast.walk(tree) if isinstance(node, ast.ClassDef) and node not in tree.body])

    def test_lists_and_dicts_of_the_top_are_only_read(self):
        for name, tree in trees():
            tops = [
                target.id for node in tree.body if isinstance(node, ast.Assign) for target in node.targets
                if isinstance(node.value, (ast.List, ast.Dict))
            ]
            fine = []
            for node in ast.walk(tree):
                if isinstance(node, ast.Subscript) and isinstance(node.ctx, ast.Load):
                    fine.append(node.value)
                elif isinstance(node, ast.Compare) and isinstance(node.ops[0], (ast.In, ast.NotIn)):
                    fine.append(node.comparators[0])
                elif isinstance(node, (ast.For, ast.comprehension)):
                    fine.append(node.iter)
            for node in ast.walk(tree):
                if isinstance(node, ast.Name) and node.id in tops and isinstance(node.ctx, ast.Load):
                    self.assertIn(node, fine, (name, node.lineno))

    def test_only_own_errors_are_taken(self):
        own = {node.name for name, node in nodes(ast.ClassDef) if name == "errors.py"}
        for name, node in nodes(ast.ExceptHandler):
            self.assertIn(getattr(node.type, "id", ""), own, (name, node.lineno))

    def test_functions(self):
        for name, node in nodes((ast.FunctionDef, ast.Lambda)):
            args = node.args
            self.assertFalse(args.vararg or args.kwarg or args.kwonlyargs or args.posonlyargs, name)
            self.assertTrue(all(is_plain(default, []) for default in args.defaults), name)
            self.none(getattr(node, "decorator_list", []))

    def test_classes(self):
        methods = []
        fields = []
        for name, node in nodes(ast.ClassDef):
            self.assertLessEqual(len(node.bases), 1, node.name)
            self.none(node.decorator_list + node.keywords)
            self.none([part for part in node.body if not isinstance(part, ast.FunctionDef)])
            own = [part.name for part in node.body]
            self.assertEqual(len(own), len(set(own)), node.name)
            methods += own
        for name, node in nodes(ast.Attribute):
            if isinstance(node.ctx, ast.Store):
                fields.append(node.attr)
        self.none(sorted(set(methods) & set(fields)))
        taken = set()
        for kind in (str, int, list, dict, set, bytes, tuple):
            taken |= set(dir(kind))
        self.none([method for method in methods if method in taken - SPECIAL - METHODS - {"add", "discard"}])

    def test_statements(self):
        for name, node in nodes(ast.Expr):
            self.assertTrue(is_docstring(node) or isinstance(node.value, ast.Call), (name, node.lineno))
        for name, node in nodes(ast.Assign):
            self.assertEqual(len(node.targets), 1, (name, node.lineno))
        for name, node in nodes((ast.For, ast.While)):
            self.none(node.orelse)
        for name, node in nodes(ast.Try):
            self.none(node.finalbody)
            for handler in node.handlers:
                self.assertIsNotNone(handler.type, (name, node.lineno))
        for name, node in nodes(ast.Raise):
            self.assertIsInstance(node.exc, ast.Call, (name, node.lineno))

    def test_expressions(self):
        for name, node in nodes(ast.Constant):
            self.assertTrue(is_plain(node, []), (name, node.lineno))
            self.assertFalse(isinstance(node.value, str) and "%" in node.value, (name, node.lineno))
        for name, node in nodes(ast.ListComp):
            self.assertEqual(len(node.generators), 1, (name, node.lineno))
            self.assertLessEqual(len(node.generators[0].ifs), 1, (name, node.lineno))
        for name, node in nodes(ast.FormattedValue):
            self.assertIsInstance(node.value, ast.Name, (name, node.lineno))
            self.assertIsNone(node.format_spec, (name, node.lineno))
        for name, node in nodes(ast.BinOp):
            if isinstance(node.op, ast.Pow):
                self.assertIsInstance(node.right, ast.Constant, (name, node.lineno))
        for name, node in nodes(ast.Compare):
            if isinstance(node.ops[0], (ast.Is, ast.IsNot)):
                self.assertIn(getattr(node.comparators[0], "value", 0), (None, True, False), (name, node.lineno))

    def test_names(self):
        for name, tree in trees():
            names = bound_names(tree)
            self.none([(name, n) for n in names if n not in SPECIAL and not re.fullmatch(r"[A-Za-z][A-Za-z0-9_]*", n)])
            self.none([(name, n) for n in names if n in NAMES_OUT])
            classes = [node.name for node in ast.walk(tree) if isinstance(node, ast.ClassDef)]
            drawn = [alias.name for node in tree.body if isinstance(node, ast.ImportFrom) for alias in node.names]
            self.none([(name, n) for n in locals_of(tree) if n in classes + drawn or n in dir(builtins)])

    def test_what_is_read_is_known(self):
        for name, tree in trees():
            known = set(bound_names(tree)) | OWN_NAMES
            known |= {alias.name for node in tree.body if isinstance(node, ast.ImportFrom) for alias in node.names}
            for node in ast.walk(tree):
                if isinstance(node, ast.Name):
                    self.assertIn(node.id, known - NAMES_OUT, (name, node.lineno))
                if isinstance(node, ast.Attribute):
                    self.assertNotIn(node.attr, NAMES_OUT, (name, node.lineno))

    def test_methods_of_pythons_own_values(self):
        own = {node.name for name, node in nodes(ast.FunctionDef)} | METHODS
        for name, node in nodes(ast.Call):
            if isinstance(node.func, ast.Attribute):
                self.assertIn(node.func.attr, own, (name, node.lineno))

    def test_keywords(self):
        for name, node in nodes(ast.Call):
            known = KEYWORDS.get(node.func.id, ()) if isinstance(node.func, ast.Name) else ()
            self.none([(name, node.lineno, word.arg) for word in node.keywords if word.arg not in known])

    def test_walked_at_once(self):
        for name, tree in trees():
            fine = []
            for node in ast.walk(tree):
                if isinstance(node, (ast.For, ast.comprehension)):
                    fine.append(node.iter)
                elif isinstance(node, ast.Call) and isinstance(node.func, ast.Name) and node.func.id in WALKERS:
                    fine += node.args[:1] if node.func.id != "zip" else node.args
                elif isinstance(node, ast.Call) and isinstance(node.func, ast.Attribute) and node.func.attr == "join":
                    fine += node.args
            for node in ast.walk(tree):
                if isinstance(node, ast.Call) and node not in fine:
                    called = node.func.id if isinstance(node.func, ast.Name) else getattr(node.func, "attr", "")
                    self.assertNotIn(called, WALKED | {"items", "keys", "values"}, (name, node.lineno))


if __name__ == "__main__":
    unittest.main()
