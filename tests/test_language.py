"""The rules of LANGUAGE.md that can be seen from the files alone; the tests name the rules."""

import ast
import builtins
import pathlib
import re
import unittest
import warnings

PACKAGE = pathlib.Path(__file__).resolve().parent.parent / "wrongshown"
FILES = sorted(path for path in PACKAGE.rglob("*") if "__pycache__" not in path.parts)

BUILTINS = set(
    "len range enumerate zip min max sum abs sorted reversed int str bool bytes list tuple dict set"
    " frozenset isinstance ord repr any all divmod iter next super property staticmethod classmethod"
    " Exception ValueError TypeError KeyError IndexError LookupError ZeroDivisionError"
    " ArithmeticError OverflowError RuntimeError NotImplementedError AttributeError StopIteration"
    " NotImplemented".split()
)
BUILTIN_METHODS = set(
    "append clear copy count endswith extend find get index insert isalnum isalpha isdigit islower"
    " isspace isupper items join keys ljust lower lstrip partition pop remove replace reverse rfind"
    " rjust rpartition rsplit rstrip setdefault split splitlines startswith strip update upper values"
    " zfill bit_length add discard sort title capitalize swapcase casefold center expandtabs"
    " removeprefix removesuffix rindex isascii isdecimal isnumeric istitle isidentifier isprintable"
    " translate".split()
)
BARRED_WORDS = (
    r"\b(type|typing|typing_extensions|enum|Enum|IntEnum|StrEnum|Flag|IntFlag|Generic|Protocol|ABC"
    r"|ABCMeta|namedtuple|NamedTuple|TypedDict|TYPE_CHECKING|abstractmethod)\b"
    r"|dataclass|overload|contextmanager"
)
BARRED_NAMES = set(
    "register mro elements open input law version_info with_traceback add_note attrgetter breakpoint"
    " builtins compile copyright credits delattr dir eval exec exit gc getattr globals hasattr help id"
    " importlib license locals methodcaller os quit setattr vars sys format format_map".split()
)
# What L6 and L7 leave out; a tree of a file holds none of these.
BARRED_NODES = (
    ast.Global, ast.AsyncFunctionDef, ast.AsyncFor, ast.AsyncWith, ast.Await, ast.Import, ast.Div,
    ast.MatMult, ast.MatchClass, ast.MatchMapping,
)
DUNDERS = set(
    "__init__ __eq__ __repr__ __str__ __len__ __enter__ __exit__ __call__ __iter__ __lt__ __le__"
    " __gt__ __ge__ __ne__ __neg__ __pos__ __invert__ __abs__ __bool__ __contains__ __getitem__"
    " __setitem__ __slots__".split()
)
for word in "add sub mul floordiv mod pow and or xor lshift rshift".split():
    DUNDERS |= {f"__{word}__", f"__r{word}__", f"__i{word}__"}


def trees():
    return [(path, ast.parse(path.read_text())) for path in FILES]


def nodes(*kinds):
    return [(path, node) for path, tree in trees() for node in ast.walk(tree) if isinstance(node, kinds)]


def bound_names(node):
    """The names that a node gives to something."""
    if isinstance(node, (ast.FunctionDef, ast.ClassDef)):
        return [node.name]
    if isinstance(node, ast.arg):
        return [node.arg]
    if isinstance(node, ast.alias):
        return [node.asname or node.name]
    if isinstance(node, ast.ExceptHandler) and node.name:
        return [node.name]
    if isinstance(node, ast.Name) and isinstance(node.ctx, ast.Store):
        return [node.id]
    return []


def functions():
    """The functions and methods of the package by their names; a name may stand for several."""
    found = {}
    for path, node in nodes(ast.FunctionDef):
        found.setdefault(node.name, []).append(node)
    return found


def called_names(node):
    """The names of the functions and methods that are called in a function."""
    calls = [item.func for item in ast.walk(node) if isinstance(item, ast.Call)]
    return [getattr(call, "id", getattr(call, "attr", "")) for call in calls]


def properties(node):
    """The properties in the body of a class."""
    return [
        item for item in node.body
        if isinstance(item, ast.FunctionDef)
        and "property" in [ast.unparse(decorator) for decorator in item.decorator_list]
    ]


class FileTests(unittest.TestCase):
    def test_l1_l14_files(self):
        self.assertIn(PACKAGE / "__init__.py", FILES)
        for path in FILES:
            self.assertRegex(path.name, r"^[a-z0-9_]+\.py$")

    def test_l10_l14_lines_and_characters(self):
        for path in FILES:
            lines = path.read_text().split("\n")
            self.assertLessEqual(len(lines), 399, path)
            for number, line in enumerate(lines, 1):
                self.assertRegex(line, r"^[ -~]{0,120}$", f"{path}:{number}")

    def test_l10_functions(self):
        for path, node in nodes(ast.FunctionDef):
            self.assertLessEqual(node.end_lineno - node.lineno + 1, 40, f"{path}:{node.lineno}")

    def test_l17_words(self):
        for path in FILES:
            self.assertIsNone(re.search(BARRED_WORDS, path.read_text()), path)

    def test_l27_no_warnings(self):
        for path in FILES:
            with warnings.catch_warnings():
                warnings.simplefilter("error")
                compile(path.read_text(), str(path), "exec")


class ImportTests(unittest.TestCase):
    def imports(self, path):
        return [node for found, node in nodes(ast.ImportFrom) if found == path]

    def test_l2_l16_each_import_names_the_file_that_defines_the_name(self):
        for path in FILES:
            for node in self.imports(path):
                self.assertEqual(node.level, 0)
                self.assertRegex(node.module, r"^wrongshown\.[a-z0-9_]+$")
                source = PACKAGE / f"{node.module.split('.')[1]}.py"
                defined = [
                    name for item in ast.parse(source.read_text()).body
                    for part in ([item] if not isinstance(item, ast.Assign) else item.targets)
                    for name in bound_names(part)
                ]
                for alias in node.names:
                    self.assertIn(alias.name, defined, f"{path}:{node.lineno}")

    def test_l16_no_circle_of_imports(self):
        needs = {
            path.stem: {node.module.split(".")[1] for node in self.imports(path)} for path in FILES
        }
        while needs:
            free = [name for name, others in needs.items() if not others & set(needs)]
            self.assertTrue(free, needs)
            for name in free:
                del needs[name]


class NameTests(unittest.TestCase):
    def test_l12_l15_l17_names(self):
        for path, tree in trees():
            for node in ast.walk(tree):
                for name in bound_names(node):
                    where = f"{path}:{getattr(node, 'lineno', 0)} {name}"
                    if isinstance(node, ast.FunctionDef) and name in DUNDERS:
                        continue
                    self.assertFalse(name.startswith("_"), where)
                    self.assertFalse(hasattr(builtins, name), where)
                    self.assertNotIn(name, BARRED_NAMES, where)

    def test_l15_no_name_inside_is_that_of_a_class_or_an_import(self):
        for path, tree in trees():
            outer = {
                name for item in tree.body if isinstance(item, (ast.ImportFrom, ast.ClassDef))
                for part in getattr(item, "names", [item]) for name in bound_names(part)
            }
            for function in [node for node in ast.walk(tree) if isinstance(node, ast.FunctionDef)]:
                for node in ast.walk(function):
                    if isinstance(node, ast.FunctionDef) and node == function:
                        continue
                    where = f"{path}:{getattr(node, 'lineno', 0)}"
                    self.assertEqual(set(bound_names(node)) & outer, set(), where)

    def test_l8_builtins(self):
        for path, tree in trees():
            bound = {name for node in ast.walk(tree) for name in bound_names(node)}
            for node in ast.walk(tree):
                if isinstance(node, ast.Name) and isinstance(node.ctx, ast.Load):
                    self.assertIn(node.id, BUILTINS | bound, f"{path}:{node.lineno}")

    def test_l25_l26_methods_and_attributes(self):
        assigned = {
            node.attr for _, node in nodes(ast.Attribute) if isinstance(node.ctx, ast.Store)
        }
        methods = {
            item.name for _, node in nodes(ast.ClassDef) for item in node.body
            if isinstance(item, ast.FunctionDef)
        }
        self.assertEqual(assigned & methods, set())
        for path, node in nodes(ast.Attribute):
            known = assigned | methods | BUILTIN_METHODS
            self.assertIn(node.attr, known, f"{path}:{node.lineno}")

    def test_l15_names_are_bound_once_at_module_level(self):
        for path, tree in trees():
            names = []
            for item in tree.body:
                if isinstance(item, ast.ImportFrom):
                    names.extend(alias.asname or alias.name for alias in item.names)
                elif isinstance(item, ast.Assign):
                    self.assertEqual(len(item.targets), 1)
                    names.extend(bound_names(item.targets[0]))
                else:
                    names.extend(bound_names(item))
            self.assertEqual(len(names), len(set(names)), path)


class StatementTests(unittest.TestCase):
    def test_l3_module_level(self):
        for path, tree in trees():
            for item in tree.body:
                docstring = isinstance(item, ast.Expr) and isinstance(item.value, ast.Constant)
                allowed = (ast.ImportFrom, ast.FunctionDef, ast.ClassDef, ast.Assign)
                self.assertTrue(docstring or isinstance(item, allowed), f"{path}:{item.lineno}")

    def test_l6_l7_barred_parts(self):
        for path, node in nodes(*BARRED_NODES):
            self.fail(f"{path}:{getattr(node, 'lineno', 0)} {node}")

    def test_l7_l27_constants(self):
        for path, node in nodes(ast.Constant):
            self.assertNotIsInstance(node.value, (float, complex), f"{path}:{node.lineno}")
            if isinstance(node.value, str):
                self.assertNotIn(chr(37), node.value, f"{path}:{node.lineno}")

    def test_l7_any_all_and_their_kin_take_lists(self):
        for path, node in nodes(ast.GeneratorExp):
            self.fail(f"{path}:{node.lineno}")

    def test_l7_comprehensions_are_small(self):
        for path, node in nodes(ast.ListComp, ast.DictComp, ast.SetComp):
            self.assertLessEqual(len(node.generators), 6, f"{path}:{node.lineno}")

    def test_l20_is(self):
        for path, node in nodes(ast.Compare):
            for sign, right in zip(node.ops, node.comparators):
                if isinstance(sign, (ast.Is, ast.IsNot)):
                    self.assertIsInstance(right, ast.Constant, f"{path}:{node.lineno}")
                    self.assertIn(right.value, (None, True, False), f"{path}:{node.lineno}")

    def test_l4_l5_decorators_and_methods(self):
        for path, node in nodes(ast.FunctionDef, ast.ClassDef):
            for decorator in node.decorator_list:
                name = ast.unparse(decorator)
                self.assertRegex(name, r"^(property|staticmethod|classmethod|\w+\.setter)$", path)
            if node.name.startswith("__"):
                self.assertIn(node.name, DUNDERS, f"{path}:{node.lineno}")

    def test_l19_errors(self):
        for path, node in nodes(ast.Raise):
            if node.exc is not None:
                self.assertIsInstance(node.exc, ast.Call, f"{path}:{node.lineno}")
                self.assertIsInstance(node.exc.func, ast.Name, f"{path}:{node.lineno}")

    def test_l19_handlers_name_own_errors(self):
        own = {node.name for path, node in nodes(ast.ClassDef) if path.name == "errors.py"}
        for path, node in nodes(ast.ExceptHandler):
            self.assertIsNotNone(node.type, f"{path}:{node.lineno}")
            names = {item.id for item in ast.walk(node.type) if isinstance(item, ast.Name)}
            self.assertLessEqual(names, own, f"{path}:{node.lineno}")

    def test_l7_no_stars_in_calls(self):
        for path, node in nodes(ast.Call):
            for item in node.args:
                self.assertNotIsInstance(item, ast.Starred, f"{path}:{node.lineno}")

    def test_l22_no_keywords_for_builtins(self):
        for path, node in nodes(ast.Call):
            if getattr(node.func, "id", getattr(node.func, "attr", "")) in BUILTINS | BUILTIN_METHODS:
                self.assertEqual(node.keywords, [], f"{path}:{node.lineno}")

    def test_l24_sets_stand_directly_in_sorted_or_len(self):
        """The package stores no set; this is narrower than the rule."""
        for path, tree in trees():
            allowed = set()
            for node in ast.walk(tree):
                if isinstance(node, ast.Call) and getattr(node.func, "id", "") in ("sorted", "len"):
                    allowed.update(node.args)
            for node in ast.walk(tree):
                made = isinstance(node, ast.Call) and getattr(node.func, "id", "") in ("set", "frozenset")
                if made or isinstance(node, (ast.Set, ast.SetComp)):
                    self.assertIn(node, allowed, f"{path}:{node.lineno}")

    def test_l23_iterated_at_once(self):
        takers = "list tuple dict sorted sum any all enumerate zip min max len reversed join".split()
        for path, tree in trees():
            allowed = set()
            for node in ast.walk(tree):
                if isinstance(node, (ast.For, ast.comprehension)):
                    allowed.add(node.iter)
                if isinstance(node, ast.Call) and set(called_names(ast.Expr(node))) & set(takers):
                    allowed.update(node.args[:1])
            for node in ast.walk(tree):
                if isinstance(node, ast.Call):
                    name = getattr(node.func, "id", getattr(node.func, "attr", ""))
                    if name in ("zip", "enumerate", "reversed", "range", "items", "keys", "values"):
                        self.assertIn(node, allowed, f"{path}:{node.lineno}")


class OperatorTests(unittest.TestCase):
    # These may change something, or are no operators.
    CHANGING = {"__init__", "__setitem__", "__enter__", "__exit__", "__call__", "__slots__"}
    MODIFYING = set("append clear extend insert pop remove reverse setdefault update sort".split())

    def test_l5_what_has_items_says_how_it_is_iterated_over(self):
        for path, node in nodes(ast.ClassDef):
            names = [item.name for item in node.body if isinstance(item, ast.FunctionDef)]
            if "__getitem__" in names:
                self.assertIn("__iter__", names, f"{path}:{node.lineno}")

    def test_l5_l18_properties(self):
        kept = {node.attr for _, node in nodes(ast.Attribute) if isinstance(node.ctx, ast.Store)}
        for path, node in nodes(ast.ClassDef):
            for item in properties(node):
                self.assertNotIn(item.name, kept, f"{path}:{item.lineno}")
                self.assertEqual(len(functions()[item.name]), 1, f"{path}:{item.lineno}")

    def reached(self, named):
        """What operators and properties call, each of them included, however many calls away."""
        pure = {
            word for word in DUNDERS - self.CHANGING
            if not (word.startswith("__i") and f"__{word[3:]}" in DUNDERS)
        }
        todo = [node for word in pure for node in named.get(word, [])]
        todo.extend(item for _, node in nodes(ast.ClassDef) for item in properties(node))
        found = []
        while todo:
            node = todo.pop()
            if node not in found:
                found.append(node)
                todo.extend(other for name in called_names(node) for other in named.get(name, []))
        return found

    def with_making(self):
        """The functions by their names, and what makes the objects of a class by the name of the class."""
        named = functions()
        for path, node in nodes(ast.ClassDef):
            named[node.name] = [
                item for item in node.body
                if isinstance(item, ast.FunctionDef) and item.name == "__init__"
            ]
        return named

    def held_calls(self, function, held):
        """The names of what a function calls although it is passed, or stored in an attribute."""
        passed = {node.arg for node in ast.walk(function) if isinstance(node, ast.arg)}
        calls = [node.func for node in ast.walk(function) if isinstance(node, ast.Call)]
        return [
            getattr(call, "id", getattr(call, "attr", ast.unparse(call))) for call in calls
            if not isinstance(call, (ast.Name, ast.Attribute))
            or getattr(call, "id", "") in passed or getattr(call, "attr", "") in held
        ]

    def test_l5_l28_operators_and_properties_call_nothing_that_they_are_passed_or_hold(self):
        held = {node.attr for _, node in nodes(ast.Attribute) if isinstance(node.ctx, ast.Store)}
        self.assertLessEqual({"index", "field", "words", "form", "done"}, held)
        reached = self.reached(self.with_making())
        names = [node.name for node in reached]
        self.assertLessEqual(
            {"__getitem__", "__contains__", "__xor__", "standing", "errors", "is_known", "__init__"},
            set(names),
        )
        for function in reached:
            where = f"{function.name}:{function.lineno}"
            self.assertEqual(self.held_calls(function, held), [], where)

    def test_l5_l28_what_counts_as_calling_what_is_held(self):
        for row, wanted in (
            ("names.index(at)", ["index"]), ("self.form.index(at)", ["index"]), ("at(1)", ["at"]),
            ("rows[0](1)", ["rows[0]"]), ("len(at)", []), ("self.standing()", []),
            ("[name for name in names if name == at]", []), ("self.index", []),
        ):
            tree = ast.parse(f"def told(self, at):\n    return {row}")
            self.assertEqual(self.held_calls(tree.body[0], {"index", "form"}), wanted)

    def test_l5_operators_and_properties_change_nothing(self):
        reached = self.reached(self.with_making())
        names = [node.name for node in reached]
        self.assertLessEqual({"is_standing", "field_names", "in_order", "__init__"}, set(names))
        for name in ("__iadd__", "__ior__", "__isub__", "__setitem__"):
            self.assertNotIn(name, names)
        for function in reached:
            own = [
                name for node in ast.walk(function) if isinstance(node, ast.Assign)
                and isinstance(node.value, (ast.List, ast.ListComp))
                for target in node.targets for name in bound_names(target)
            ]
            for node in ast.walk(function):
                where = f"{function.name}:{getattr(node, 'lineno', 0)}"
                self.assertNotIsInstance(node, (ast.AugAssign, ast.Delete), where)
                # What makes a new object may give it its attributes.
                if isinstance(node, ast.Attribute) and function.name != "__init__":
                    self.assertNotIsInstance(node.ctx, ast.Store, where)
                if isinstance(node, ast.Subscript):
                    self.assertNotIsInstance(node.ctx, ast.Store, where)
                if isinstance(node, ast.Attribute) and node.attr in self.MODIFYING:
                    self.assertIn(getattr(node.value, "id", ""), own, where)


if __name__ == "__main__":
    unittest.main()
