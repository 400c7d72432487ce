"""The package's own files keep to the part of Python that the program is written in (what of it is easy to look after)."""

import ast
import builtins
import os
import re
import unittest

ROOT = os.path.dirname(os.path.dirname(os.path.abspath(__file__)))
PACKAGE = os.path.join(ROOT, "dockethall")

NODES = """
Module FunctionDef ClassDef arguments arg Assign AugAssign If While For Return Break Continue Pass Raise Try
ExceptHandler Expr ImportFrom alias Name Load Store Attribute Subscript Slice Constant List Tuple Dict Set ListComp
comprehension BinOp Add Sub Mult FloorDiv Mod Pow BitAnd BitOr BitXor LShift RShift UnaryOp USub UAdd Not Invert BoolOp
And Or Compare Eq NotEq Lt LtE Gt GtE In NotIn Is IsNot IfExp Call keyword Lambda JoinedStr FormattedValue
""".split()

OWN_OF_PYTHON = """
len range enumerate zip min max sum abs sorted reversed int str bool list tuple dict set frozenset isinstance ord repr
any all divmod Exception ValueError TypeError KeyError IndexError LookupError ZeroDivisionError ArithmeticError
OverflowError RuntimeError NotImplementedError AttributeError StopIteration
""".split()

METHODS = """
append clear copy count endswith extend find get index insert isalnum isalpha isdigit islower isspace isupper items join
keys ljust lower lstrip partition pop remove replace reverse rfind rjust rpartition rsplit rstrip setdefault split
splitlines startswith strip update upper values zfill bit_length
""".split()

UNUSED_ANYWHERE = "register mro elements open input version_info with_traceback add_note format format_map args".split()

WORDS = """
type typing typing_extensions enum Enum IntEnum StrEnum Flag IntFlag Generic Protocol ABC ABCMeta namedtuple NamedTuple
TypedDict TYPE_CHECKING abstractmethod
""".split()

# What is walked on the spot, and the names within which it may stand first for that.
WALKED = ["zip", "enumerate", "reversed", "range"]
WALKED_METHODS = ["items", "keys", "values"]
WALKERS = ["list", "tuple", "dict", "sorted", "sum", "any", "all", "enumerate", "zip", "min", "max"]

TWO_UNDERSCORES = ["__init__", "__eq__", "__repr__", "__str__", "__len__"]

TAKEN_FILE_NAMES = ["test", "tests", "testing", "site", "conftest", "sitecustomize", "usercustomize"]


def sources():
    """The text of each file of the package, by its name."""
    told = {}
    for name in sorted(os.listdir(PACKAGE)):
        if name != "__pycache__":
            with open(os.path.join(PACKAGE, name), encoding="utf-8", newline="") as file:
                told[name] = file.read()
    return told


def trees():
    return [(name, ast.parse(text)) for name, text in sources().items()]


def nodes(*kinds):
    """Each node of these kinds, with the place where it stands."""
    return [(f"{name}:{getattr(node, 'lineno', 0)}", node)
            for name, tree in trees() for node in ast.walk(tree) if isinstance(node, kinds)]


def is_walked(node):
    """Whether a call gives something that must be walked where it stands."""
    if not isinstance(node, ast.Call):
        return False
    return getattr(node.func, "id", None) in WALKED or getattr(node.func, "attr", None) in WALKED_METHODS


def walked_at_once():
    """All that is walked by the loop or the call that it stands in."""
    told = [node.iter for place, node in nodes(ast.For, ast.comprehension)]
    for place, node in nodes(ast.Call):
        if getattr(node.func, "id", None) in WALKERS:
            told.extend(node.args[:1])
    return [(node.lineno, node.col_offset, ast.dump(node)) for node in told]


def bound_at_top(tree):
    names = []
    for row in tree.body:
        if isinstance(row, (ast.FunctionDef, ast.ClassDef)):
            names.append(row.name)
        if isinstance(row, ast.Assign):
            names.extend(target.id for target in row.targets)
        if isinstance(row, ast.ImportFrom):
            names.extend(alias.asname or alias.name for alias in row.names)
    return names


def own_methods():
    return {row.name for place, node in nodes(ast.ClassDef) for row in node.body if isinstance(row, ast.FunctionDef)}


def own_values():
    return {node.attr for place, node in nodes(ast.Attribute) if isinstance(node.ctx, ast.Store)}


def locals_of(tree):
    """The names that the defs of a file bind: parameters, and what is assigned or walked."""
    names = {node.arg for node in ast.walk(tree) if isinstance(node, ast.arg)}
    names |= {node.id for node in ast.walk(tree) if isinstance(node, ast.Name) and isinstance(node.ctx, ast.Store)}
    names |= {node.name for node in ast.walk(tree) if isinstance(node, ast.ExceptHandler) and node.name}
    return names


class Files(unittest.TestCase):
    def test_names(self):
        for name in sources():
            self.assertRegex(name, r"\A[a-z0-9_]+\.py\Z")
            self.assertNotIn(name[:-3], TAKEN_FILE_NAMES + WORDS + dir(builtins))
            self.assertFalse(name.startswith("test_"), name)
        self.assertIn("__init__.py", sources())

    def test_sizes(self):
        for name, text in sources().items():
            rows = text.split("\n")
            self.assertLessEqual(len(rows), 401, name)
            for number, row in enumerate(rows, 1):
                self.assertLessEqual(len(row), 120, f"{name}:{number}")

    def test_functions_are_short(self):
        for place, node in nodes(ast.FunctionDef):
            self.assertLessEqual(node.end_lineno - node.lineno + 1, 40, place)

    def test_signs(self):
        for name, text in sources().items():
            self.assertEqual([sign for sign in text if not (" " <= sign <= "~" or sign == "\n")], [], name)

    def test_words_that_stand_nowhere(self):
        for name, text in sources().items():
            found = [word for word in re.findall(r"\w+", text) if word in WORDS]
            found += [part for part in ("dataclass", "overload", "contextmanager") if part in text]
            self.assertEqual(found, [], name)

    def test_texts_without_percent_and_with_few_escapes(self):
        for place, node in nodes(ast.Constant):
            if isinstance(node.value, str):
                self.assertNotIn("%", node.value, place)
        for name, text in sources().items():
            self.assertIsNone(re.search(r"""\\[^nt\\'"]""", text), name)


class Forms(unittest.TestCase):
    def test_kinds_of_nodes(self):
        for place, node in nodes(ast.AST):
            self.assertIn(node.__class__.__name__, NODES, place)

    def test_top_of_each_file(self):
        for name, tree in trees():
            for number, row in enumerate(tree.body):
                if number == 0:
                    self.assertIsNotNone(ast.get_docstring(tree), name)
                else:
                    self.assertIsInstance(row, (ast.ImportFrom, ast.FunctionDef, ast.ClassDef, ast.Assign), name)
            names = bound_at_top(tree)
            self.assertEqual(len(set(names)), len(names), name)

    def test_functions(self):
        for place, node in nodes(ast.FunctionDef):
            self.assertEqual((node.decorator_list, node.returns), ([], None), place)
        for place, node in nodes(ast.arguments):
            self.assertIsNone(node.vararg or node.kwarg, place)
            self.assertEqual(node.kwonlyargs + node.posonlyargs, [], place)

    def test_classes(self):
        for place, node in nodes(ast.ClassDef):
            self.assertEqual(node.decorator_list + node.keywords, [], place)
            self.assertLessEqual(len(node.bases), 1, place)
            methods = [row.name for row in node.body if isinstance(row, ast.FunctionDef)]
            self.assertEqual(len(set(methods)), len(methods), place)
            others = [row for row in node.body if not isinstance(row, ast.FunctionDef)]
            self.assertLessEqual(len(others), 1, place)
            self.assertIsNotNone(ast.get_docstring(node), place)

    def test_statements(self):
        for place, node in nodes(ast.Assign):
            self.assertEqual(len(node.targets), 1, place)
            self.assertIsInstance(node.targets[0], (ast.Name, ast.Attribute, ast.Subscript), place)
        for place, node in nodes(ast.For, ast.While):
            self.assertEqual(node.orelse, [], place)
        for place, node in nodes(ast.Try):
            self.assertEqual(node.finalbody, [], place)
        for place, node in nodes(ast.comprehension):
            self.assertLessEqual(len(node.ifs), 1, place)
        for place, node in nodes(ast.ListComp):
            self.assertEqual(len(node.generators), 1, place)

    def test_values(self):
        for place, node in nodes(ast.Constant):
            self.assertIsInstance(node.value, (int, str, type(None)), place)
        for place, node in nodes(ast.Compare):
            for sign, right in zip(node.ops, node.comparators):
                if isinstance(sign, (ast.Is, ast.IsNot)):
                    self.assertIsInstance(getattr(right, "value", 0), (bool, type(None)), place)
        for place, node in nodes(ast.BinOp):
            if isinstance(node.op, ast.Pow):
                self.assertIn(getattr(node.right, "value", None), range(65), place)

    def test_walked_on_the_spot(self):
        at_once = walked_at_once()
        for place, node in nodes(ast.Call):
            if is_walked(node):
                self.assertIn((node.lineno, node.col_offset, ast.dump(node)), at_once, place)

    def test_errors_are_taken_by_name(self):
        for place, node in nodes(ast.ExceptHandler):
            taken = node.type.elts if isinstance(node.type, ast.Tuple) else [node.type]
            for each in taken:
                self.assertNotIn(getattr(each, "id", None), (None, "Exception", "TypeError"), place)


class Names(unittest.TestCase):
    def test_imports(self):
        drawn = {}
        defined = {name[:-3]: bound_at_top(tree) for name, tree in trees()}
        for name, tree in trees():
            drawn[name[:-3]] = []
            for row in [row for row in ast.walk(tree) if isinstance(row, ast.ImportFrom)]:
                package, dot, module = row.module.partition(".")
                self.assertEqual((row.level, package, dot), (0, "dockethall", "."), name)
                self.assertIn(row, tree.body, name)
                drawn[name[:-3]].append(module)
                for alias in row.names:
                    self.assertIn(alias.name, defined[module], name)
        while drawn:
            free = [name for name, modules in drawn.items() if not [module for module in modules if module in drawn]]
            self.assertNotEqual(free, [], "files draw from one another")
            for name in free:
                drawn.pop(name)

    def test_names_imported_from_where_they_are_defined(self):
        for name, tree in trees():
            for row in tree.body:
                if isinstance(row, ast.ImportFrom):
                    source = ast.parse(sources()[row.module.partition(".")[2] + ".py"])
                    source.body = [each for each in source.body if not isinstance(each, ast.ImportFrom)]
                    for alias in row.names:
                        self.assertIn(alias.name, bound_at_top(source), name)

    def test_signs_of_names(self):
        for name, tree in trees():
            for each in locals_of(tree) | set(bound_at_top(tree)) | own_values():
                self.assertRegex(each, r"\A[A-Za-z][A-Za-z0-9_]*\Z", name)
        for each in own_methods():
            if each not in TWO_UNDERSCORES:
                self.assertRegex(each, r"\A[A-Za-z][A-Za-z0-9_]*\Z")

    def test_names_of_python_have_no_other_meaning(self):
        for name, tree in trees():
            for each in locals_of(tree) | set(bound_at_top(tree)):
                self.assertNotIn(each, dir(builtins), name)
            tops = [row.name for row in tree.body if isinstance(row, ast.ClassDef)]
            tops += [alias.name for row in tree.body if isinstance(row, ast.ImportFrom) for alias in row.names]
            self.assertEqual(sorted(locals_of(tree) & set(tops)), [], name)

    def test_names_that_are_read(self):
        for name, tree in trees():
            known = locals_of(tree) | set(bound_at_top(tree)) | set(OWN_OF_PYTHON)
            for node in ast.walk(tree):
                if isinstance(node, ast.Name) and isinstance(node.ctx, ast.Load):
                    self.assertIn(node.id, known, f"{name}:{node.lineno}")

    def test_attributes(self):
        known = own_methods() | own_values() | set(METHODS)
        for place, node in nodes(ast.Attribute):
            self.assertIn(node.attr, known, place)
            self.assertNotIn(node.attr, UNUSED_ANYWHERE, place)

    def test_methods_and_values(self):
        self.assertEqual(sorted(own_methods() & own_values()), [])
        taken = {each for kind in (str, int, list, dict, set, bytes) for each in dir(kind)} - set(TWO_UNDERSCORES)
        self.assertEqual(sorted(own_values() & taken), [])
        self.assertEqual(sorted((own_methods() - set(METHODS) - {"add", "discard"}) & taken), [])


if __name__ == "__main__":
    unittest.main()
