"""The rules of ../shared/LANGUAGE.md that a simple look at the files of the package can tell."""

import ast
import builtins
import pathlib
import re
import unittest

PACKAGE = pathlib.Path(__file__).resolve().parent.parent / "ownfears"
FILES = sorted(path for path in PACKAGE.rglob("*") if path.is_file() and "__pycache__" not in path.parts)

ALLOWED_BUILTINS = set("""
len range enumerate zip min max sum abs sorted reversed int str bool bytes list tuple dict set frozenset isinstance ord repr
any all divmod Exception ValueError TypeError KeyError IndexError LookupError ZeroDivisionError ArithmeticError OverflowError
RuntimeError NotImplementedError AttributeError StopIteration NotImplemented iter next map property staticmethod classmethod
super
""".split())
BARRED_NAMES = set("""
register mro elements open input law version_info with_traceback add_note attrgetter breakpoint builtins compile copyright
credits delattr dir eval exec exit gc getattr globals hasattr help id importlib license locals methodcaller os quit setattr
type vars sys
""".split())
BARRED_WORDS = set("""
type typing typing_extensions enum Enum IntEnum StrEnum Flag IntFlag Generic Protocol ABC ABCMeta namedtuple NamedTuple
TypedDict TYPE_CHECKING abstractmethod dataclass overload contextmanager
""".split())
METHODS = set("""
append clear copy count endswith extend find get index insert isalnum isalpha isdigit islower isspace isupper items join keys
ljust lower lstrip partition pop remove replace reverse rfind rjust rpartition rsplit rstrip setdefault split splitlines
startswith strip update upper values zfill bit_length
""".split())
CHANGING = {"append", "clear", "extend", "insert", "pop", "remove", "reverse", "setdefault", "sort", "update"}
DUNDERS = set("""
__init__ __eq__ __repr__ __str__ __len__ __enter__ __exit__ __call__ __iter__ __lt__ __le__ __gt__ __ge__ __ne__ __add__
__sub__ __mul__ __and__ __or__ __xor__ __neg__ __pos__ __invert__ __abs__ __bool__ __contains__ __getitem__ __setitem__
""".split())


def trees():
    return [(path, ast.parse(path.read_text(encoding="utf-8"))) for path in FILES if path.suffix == ".py"]


def definitions(tree):
    return [node for node in ast.walk(tree) if isinstance(node, (ast.FunctionDef, ast.ClassDef))]


def docstrings(tree):
    return {id(node.body[0].value) for node in [tree, *definitions(tree)]
            if isinstance(node.body[0], ast.Expr) and isinstance(node.body[0].value, ast.Constant)}


def constants(tree):
    """The names that a file assigns at module level."""
    return [target.id for node in tree.body if isinstance(node, ast.Assign) for target in node.targets]


def changed_names(nodes):
    """The names whose lists are changed by a method, an item or a deletion."""
    for part in [part for node in nodes for part in ast.walk(node)]:
        if isinstance(part, ast.Call) and isinstance(part.func, ast.Attribute) and part.func.attr in CHANGING:
            yield ast.unparse(part.func.value)
        if isinstance(part, ast.Subscript) and not isinstance(part.ctx, ast.Load):
            yield ast.unparse(part.value)


def is_property(node):
    return any(ast.unparse(decorator) == "property" for decorator in node.decorator_list)


def methods_of(tree):
    """The pairs of a class and a function in its body."""
    return [(node, part) for node in tree.body if isinstance(node, ast.ClassDef) for part in node.body if isinstance(part, ast.FunctionDef)]


def own_lists(function):
    """The names to which a function assigns lists that it creates."""
    for node in ast.walk(function):
        if isinstance(node, ast.Assign) and isinstance(node.value, (ast.List, ast.ListComp)):
            yield from [target.id for target in node.targets if isinstance(target, ast.Name)]


def changes_of(function):
    """What a function changes but lists that it creates, and the attributes of what it makes."""
    for node in ast.walk(function):
        if isinstance(node, (ast.AugAssign, ast.Delete, ast.Nonlocal)):
            yield ast.unparse(node)
        if isinstance(node, ast.Attribute) and isinstance(node.ctx, ast.Store) and function.name != "__init__":
            yield ast.unparse(node)
    yield from set(changed_names([function])) - set(own_lists(function))


def called_by(function, table):
    """The functions of the package that a function calls, by their names."""
    for node in ast.walk(function):
        if isinstance(node, ast.Call):
            name = node.func.attr if isinstance(node.func, ast.Attribute) else ast.unparse(node.func)
            yield from table.get(name, [])


def bound_names(tree):
    """All names that a file gives to something, but for methods."""
    for node in ast.walk(tree):
        if isinstance(node, ast.arg):
            yield node.arg
        elif isinstance(node, ast.Name) and not isinstance(node.ctx, ast.Load):
            yield node.id
    for node in tree.body:
        if isinstance(node, (ast.FunctionDef, ast.ClassDef)):
            yield node.name


class LanguageTest(unittest.TestCase):
    def test_files(self):
        self.assertIn("__init__.py", [path.name for path in FILES])
        for path in FILES:
            self.assertTrue(re.fullmatch("[a-z0-9_]+[.]py", path.name), path)
            self.assertFalse(re.fullmatch("(law_.*|tests?|testing|test_.*|site|conftest)[.]py", path.name), path)
        self.assertLessEqual(len(FILES), 100)

    def test_characters_and_sizes(self):
        for path in FILES:
            text = path.read_text(encoding="utf-8")
            self.assertTrue(all(" " <= sign <= "~" or sign == "\n" for sign in text), path)
            rows = text.split("\n")
            self.assertLessEqual(len(rows) - 1, 399, path)
            self.assertLessEqual(max(map(len, rows)), 120, path)
        for path, tree in trees():
            for node in definitions(tree):
                if isinstance(node, ast.FunctionDef):
                    self.assertLessEqual(node.end_lineno - node.lineno + 1, 40, (path, node.name))

    def test_imports(self):
        defined = {f"ownfears.{path.stem}": {node.name for node in tree.body if hasattr(node, "name")} | set(constants(tree))
                   for path, tree in trees()}
        above = {}
        for path, tree in trees():
            found = [node for node in ast.walk(tree) if isinstance(node, (ast.Import, ast.ImportFrom))]
            for node in found:
                self.assertIsInstance(node, ast.ImportFrom, path)
                self.assertIn(node, tree.body, path)
                self.assertEqual(node.level, 0, path)
                for name in node.names:
                    self.assertIsNone(name.asname, path)
                    self.assertIn(name.name, defined[node.module], (path, name.name))
            above[f"ownfears.{path.stem}"] = {node.module for node in found}
        while above:
            free = [name for name, wanted in above.items() if not wanted & set(above)]
            self.assertTrue(free, f"imports in a circle: {sorted(above)}")
            above = {name: wanted for name, wanted in above.items() if name not in free}

    def test_no_import_is_unused_or_bound_again(self):
        for path, tree in trees():
            imported = [name.name for node in tree.body if isinstance(node, ast.ImportFrom) for name in node.names]
            read = {node.id for node in ast.walk(tree) if isinstance(node, ast.Name) and isinstance(node.ctx, ast.Load)}
            for name in imported:
                self.assertIn(name, read, path)
            bound = list(bound_names(tree))
            classes = [node.name for node in tree.body if isinstance(node, ast.ClassDef)]
            self.assertFalse(set(imported) & set(bound), path)
            for name in classes:
                self.assertEqual(bound.count(name), 1, (path, name))

    def test_module_level(self):
        for path, tree in trees():
            for node in tree.body:
                docstring = node is tree.body[0] and isinstance(node, ast.Expr)
                self.assertTrue(docstring or isinstance(
                    node, (ast.ImportFrom, ast.FunctionDef, ast.ClassDef, ast.Assign)), (path, node.lineno))

    def test_names(self):
        for path, tree in trees():
            for name in bound_names(tree):
                self.assertNotIn(name, vars(builtins), path)
                self.assertNotIn(name, BARRED_NAMES, path)
                self.assertFalse(name.startswith("__"), (path, name))
            for node in ast.walk(tree):
                if isinstance(node, ast.Name) and isinstance(node.ctx, ast.Load) and node.id in vars(builtins):
                    self.assertIn(node.id, ALLOWED_BUILTINS, (path, node.lineno))
                if isinstance(node, ast.FunctionDef) and node.name.startswith("__"):
                    self.assertIn(node.name, DUNDERS, path)
                if isinstance(node, ast.Attribute):
                    self.assertNotIn(node.attr, {"format", "format_map", "mro", "args", "open", "input", "law"}, path)

    def test_words(self):
        for path, tree in trees():
            spared = docstrings(tree)
            for node in ast.walk(tree):
                words = set()
                if isinstance(node, ast.Name):
                    words = {node.id}
                elif isinstance(node, ast.Attribute):
                    words = {node.attr}
                elif isinstance(node, ast.Constant) and isinstance(node.value, str):
                    self.assertNotIn("%", node.value, path)
                    words = set() if id(node) in spared else set(re.findall("[A-Za-z_]+", node.value))
                self.assertFalse(words & BARRED_WORDS, (path, words))

    def test_statements_and_expressions(self):
        # Somewhat narrower than the rules: what the package has had no use for so far is left out here, too.
        barred = (
            ast.Global, ast.AsyncFunctionDef, ast.Await, ast.AsyncFor, ast.AsyncWith, ast.GeneratorExp, ast.Set, ast.Div,
            ast.AnnAssign, ast.NamedExpr,
        )
        for path, tree in trees():
            for node in ast.walk(tree):
                self.assertNotIsInstance(node, barred, path)
                if isinstance(node, ast.Constant):
                    self.assertNotIsInstance(node.value, (float, complex, bytes), path)
                if isinstance(node, ast.Raise) and node.exc is not None:
                    self.assertIsInstance(node.exc, ast.Call, path)
                if isinstance(node, ast.Compare):
                    for sign, right in zip(node.ops, node.comparators):
                        if isinstance(sign, (ast.Is, ast.IsNot)):
                            self.assertIsInstance(right, ast.Constant, (path, node.lineno))
                if isinstance(node, (ast.FunctionDef, ast.ClassDef)):
                    for decorator in node.decorator_list:
                        self.assertIn(ast.unparse(decorator).split(".")[-1], {"property", "setter", "staticmethod", "classmethod"})
                if isinstance(node, (ast.arg, ast.FunctionDef)):
                    self.assertIsNone(getattr(node, "annotation", None) or getattr(node, "returns", None), path)

    def test_constants_are_assigned_once_and_only_read(self):
        every = [name for _, tree in trees() for name in constants(tree)]
        for path, tree in trees():
            for name in constants(tree):
                self.assertEqual(list(bound_names(tree)).count(name), 1, (path, name))
            self.assertFalse(set(changed_names([tree])) & set(every), path)

    def test_loops_change_nothing_that_they_go_over(self):
        for path, tree in trees():
            for node in ast.walk(tree):
                if isinstance(node, ast.For):
                    names = {part.id for part in ast.walk(node.iter) if isinstance(part, ast.Name)}
                    self.assertFalse(names & set(changed_names(node.body)), (path, node.lineno))

    def test_what_is_reversed(self):
        for path, tree in trees():
            for node in ast.walk(tree):
                if isinstance(node, ast.Call) and isinstance(node.func, ast.Name) and node.func.id == "reversed":
                    self.assertIsInstance(node.args[0], ast.Call, (path, node.lineno))
                    self.assertIn(ast.unparse(node.args[0].func), {"list", "tuple", "sorted", "range"}, (path, node.lineno))

    def test_methods_of_builtin_values(self):
        own = {node.name for _, tree in trees() for node in definitions(tree)}
        for path, tree in trees():
            for node in ast.walk(tree):
                if isinstance(node, ast.Call) and isinstance(node.func, ast.Attribute):
                    self.assertIn(node.func.attr, METHODS | own | {"__init__"}, (path, node.lineno))

    def test_sets_are_only_sorted_counted_or_asked(self):
        for path, tree in trees():
            good = set()
            for node in ast.walk(tree):
                if isinstance(node, ast.Call) and isinstance(node.func, ast.Name) and node.func.id in ("sorted", "len"):
                    good |= {id(part) for arg in node.args for part in ast.walk(arg)}
                if isinstance(node, ast.Compare) and isinstance(node.ops[0], (ast.In, ast.NotIn, ast.Eq, ast.NotEq)):
                    good |= {id(part) for part in ast.walk(node)}
            for node in ast.walk(tree):
                called = isinstance(node, ast.Call) and isinstance(node.func, ast.Name) and node.func.id in ("set", "frozenset")
                if called or isinstance(node, ast.SetComp):
                    self.assertIn(id(node), good, (path, node.lineno))

    def test_what_operators_and_properties_run_changes_nothing(self):
        table, waiting = {}, []
        for _, tree in trees():
            for node in tree.body:
                if isinstance(node, ast.FunctionDef):
                    table.setdefault(node.name, []).append(node)
            for kind, method in methods_of(tree):
                table.setdefault(kind.name if method.name == "__init__" else method.name, []).append(method)
                if is_property(method) or method.name in DUNDERS - {"__init__", "__call__"}:
                    waiting.append(method)
        seen = []
        while waiting:
            function = waiting.pop()
            if function not in seen:
                seen.append(function)
                self.assertFalse(list(changes_of(function)), function.name)
                waiting += called_by(function, table)

    def test_finally_only_assigns_attributes(self):
        for path, tree in trees():
            for node in ast.walk(tree):
                for part in node.finalbody if isinstance(node, ast.Try) else []:
                    self.assertIsInstance(part, ast.Assign, (path, part.lineno))
                    for side in (part.targets[0], part.value):
                        self.assertIsInstance(side, ast.Attribute, (path, part.lineno))

    def test_what_has_items_says_how_it_is_iterated(self):
        for path, tree in trees():
            for node in [node for node in tree.body if isinstance(node, ast.ClassDef)]:
                names = [method.name for kind, method in methods_of(tree) if kind is node]
                self.assertLessEqual(names.count("__getitem__"), names.count("__iter__"), (path, node.name))

    def test_methods_properties_and_attributes_have_names_of_their_own(self):
        methods = [method for _, tree in trees() for _, method in methods_of(tree)]
        properties = {method.name for method in methods if is_property(method)}
        plain = {method.name for method in methods} - properties
        stored = {node.attr for _, tree in trees() for node in ast.walk(tree) if isinstance(node, ast.Attribute) and isinstance(node.ctx, ast.Store)}
        self.assertFalse(properties & {method.name for method in methods if not is_property(method)})
        self.assertFalse(stored & (properties | plain))

    def test_nothing_is_called_like_a_generator(self):
        functions = [node for _, tree in trees() for node in ast.walk(tree) if isinstance(node, ast.FunctionDef)]
        generators = [node.name for node in functions
                      if any(isinstance(part, (ast.Yield, ast.YieldFrom)) for part in ast.walk(node))]
        for name in generators:
            self.assertEqual([node.name for node in functions].count(name), 1, name)


if __name__ == "__main__":
    unittest.main()
