"""The files of the package keep to the plain part of the language that they are written in.

Not every rule can be seen from outside; these tests look at those that slip in most easily.
"""

import ast
import builtins
import pathlib
import unittest

FOLDER = pathlib.Path(__file__).resolve().parent.parent / "unpressed"
FILES = sorted(path for path in FOLDER.rglob("*") if "__pycache__" not in path.parts)
CALLED_BUILTINS = {
    "len", "range", "enumerate", "zip", "min", "max", "sum", "abs", "sorted", "reversed", "int", "str", "bool", "list",
    "tuple", "dict", "isinstance", "ord", "repr", "any", "all", "divmod", "super", "iter", "type",
}
METHODS = set(
    "append clear copy count endswith extend find get index insert isalnum isalpha isdigit islower isspace isupper "
    "items join keys ljust lower lstrip partition pop remove replace reverse rfind rjust rpartition rsplit rstrip "
    "setdefault split splitlines startswith strip update upper values zfill bit_length __init__".split())
BARRED_NAMES = set(
    "mro elements open input law version_info with_traceback add_note register type typing enum namedtuple".split())
LIBRARY = {"math": {"gcd", "lcm", "isqrt", "comb", "perm", "factorial"}, "heapq": {"heappush", "heappop", "heapify"}}
MODIFYING = set("append extend insert pop remove reverse clear setdefault update sort add discard".split())
OPERATORS = {"__rshift__", "__contains__", "__eq__", "__len__"}
BARRED_NODES = (
    ast.Lambda, ast.Global, ast.Nonlocal, ast.AsyncFunctionDef, ast.Await, ast.Set, ast.SetComp,
    ast.GeneratorExp, ast.Div, ast.AnnAssign, ast.Import, ast.YieldFrom, ast.NamedExpr, ast.Starred,
)


def trees():
    return {path: ast.parse(path.read_text(encoding="utf-8")) for path in FILES}


def functions_of(tree):
    return [node for node in ast.walk(tree) if isinstance(node, ast.FunctionDef)]


def bound_in(function):
    """The names that a function binds: its parameters and what it assigns to."""
    names = {argument.arg for argument in function.args.args + function.args.kwonlyargs}
    for node in ast.walk(function):
        if isinstance(node, ast.Name) and isinstance(node.ctx, ast.Store):
            names.add(node.id)
    return names


def defined_in(tree):
    """The names that a module itself defines."""
    names = set()
    for node in tree.body:
        if isinstance(node, (ast.FunctionDef, ast.ClassDef)):
            names.add(node.name)
        if isinstance(node, ast.Assign):
            names.update(target.id for target in node.targets)
    return names


class Files(unittest.TestCase):
    def test_only_plain_python_files(self):
        self.assertTrue(FILES)
        for path in FILES:
            self.assertEqual(path.parent, FOLDER)
            self.assertEqual(path.suffix, ".py")
            self.assertFalse(path.name.startswith("test"))

    def test_characters_and_sizes(self):
        for path in FILES:
            text = path.read_text(encoding="utf-8")
            lines = text.split("\n")
            self.assertLessEqual(len(lines), 399, path)
            for at, line in enumerate(lines):
                self.assertLessEqual(len(line), 120, (path, at))
                self.assertTrue(all(" " <= character <= "~" for character in line), (path, at))

    def test_functions_are_short(self):
        for path, tree in trees().items():
            for function in functions_of(tree):
                self.assertLessEqual(function.end_lineno - function.lineno + 1, 40, (path, function.name))

    def test_everything_public_is_described(self):
        for path, tree in trees().items():
            self.assertTrue(ast.get_docstring(tree), path)
            for node in ast.walk(tree):
                if isinstance(node, (ast.FunctionDef, ast.ClassDef)) and not node.name.startswith("_"):
                    self.assertTrue(ast.get_docstring(node), (path, node.name))


class Modules(unittest.TestCase):
    def test_only_plain_things_at_module_level(self):
        for path, tree in trees().items():
            for node in tree.body:
                if isinstance(node, ast.Expr):
                    self.assertIsInstance(node.value.value, str)
                elif isinstance(node, ast.Assign):
                    ast.literal_eval(node.value)
                    self.assertEqual(len(node.targets), 1)
                else:
                    self.assertIsInstance(node, (ast.ImportFrom, ast.FunctionDef, ast.ClassDef), path)

    def test_imports_name_the_file_that_defines(self):
        found = trees()
        for path, tree in found.items():
            for node in ast.walk(tree):
                if isinstance(node, ast.ImportFrom) and node.module in LIBRARY:
                    self.assertLessEqual({name.name for name in node.names}, LIBRARY[node.module])
                elif isinstance(node, ast.ImportFrom):
                    package, _, file = node.module.partition(".")
                    self.assertEqual((package, node.level), ("unpressed", 0), path)
                    names = defined_in(found[FOLDER / f"{file}.py"])
                    self.assertLessEqual({name.name for name in node.names}, names, path)
                    self.assertTrue(all(name.asname is None for name in node.names), path)

    def test_no_circles_of_imports(self):
        follows = {}
        for path, tree in trees().items():
            follows[path.stem] = [node.module.partition(".")[2] for node in tree.body if isinstance(node, ast.ImportFrom)]
        done = []
        while len(done) < len(follows):
            ready = [name for name in follows if name not in done
                     and all(other in done or other == "" for other in follows[name])]
            self.assertTrue(ready, "files import from each other")
            done.extend(ready)


class Code(unittest.TestCase):
    def test_no_barred_statements_and_values(self):
        for path, tree in trees().items():
            for node in ast.walk(tree):
                self.assertNotIsInstance(node, BARRED_NODES, (path, getattr(node, "lineno", 0)))
                if isinstance(node, ast.Constant):
                    self.assertNotIsInstance(node.value, (float, complex, bytes))
                if isinstance(node, ast.BinOp) and isinstance(node.op, ast.Pow):
                    self.assertIsInstance(node.right, ast.Constant, path)
                if isinstance(node, ast.Constant) and isinstance(node.value, str):
                    self.assertNotIn("%", node.value, path)

    def test_calls(self):
        found = trees()
        own = {node.name for tree in found.values() for node in ast.walk(tree)
               if isinstance(node, (ast.FunctionDef, ast.ClassDef))}
        library = set().union(*LIBRARY.values())
        for path, tree in found.items():
            for node in ast.walk(tree):
                if isinstance(node, ast.Call) and isinstance(node.func, ast.Name):
                    self.assertIn(node.func.id, CALLED_BUILTINS | own | library, path)
                elif isinstance(node, ast.Call):
                    self.assertIsInstance(node.func, ast.Attribute, path)
                    self.assertIn(node.func.attr, METHODS | own, path)

    def test_names(self):
        for path, tree in trees().items():
            imported = {name.name for node in tree.body if isinstance(node, ast.ImportFrom) for name in node.names}
            classes = {node.name for node in tree.body if isinstance(node, ast.ClassDef)}
            for function in functions_of(tree):
                bound = bound_in(function)
                self.assertFalse(bound & (imported | classes), (path, function.name))
                self.assertFalse((bound | {function.name}) & set(dir(builtins)) - {"__init__"}, (path, function.name))
                self.assertFalse((bound | {function.name}) & BARRED_NAMES, (path, function.name))

    def test_methods_and_attributes_have_names_of_their_own(self):
        methods = set()
        attributes = set()
        for tree in trees().values():
            for node in ast.walk(tree):
                if isinstance(node, ast.ClassDef):
                    methods.update(part.name for part in node.body if isinstance(part, ast.FunctionDef))
                if isinstance(node, ast.Attribute) and isinstance(node.ctx, ast.Store):
                    attributes.add(node.attr)
        self.assertFalse(methods & attributes)
        self.assertFalse(attributes & {"items", "keys", "values", "pop", "update", "args", "sort", "format"})

    def test_generators_have_names_of_their_own(self):
        names = []
        generators = []
        for tree in trees().values():
            for function in functions_of(tree):
                names.append(function.name)
                if any(isinstance(node, ast.Yield) for node in ast.walk(function)):
                    generators.append(function.name)
        for name in generators:
            self.assertEqual(names.count(name), 1)

    def test_is_stands_beside_none_true_and_false(self):
        for path, tree in trees().items():
            for node in ast.walk(tree):
                if isinstance(node, ast.Compare) and any(isinstance(op, (ast.Is, ast.IsNot)) for op in node.ops):
                    self.assertIn(repr(getattr(node.comparators[0], "value", "")), ("None", "True", "False"), path)

    def test_properties_only_read(self):
        for path, tree in trees().items():
            for function in functions_of(tree):
                if [node.id for node in function.decorator_list] == ["property"]:
                    for node in ast.walk(function):
                        self.assertNotIsInstance(node, (ast.Assign, ast.AugAssign), (path, function.name))
                        if isinstance(node, ast.Call):
                            self.assertIn(getattr(node.func, "id", None), ("len", "sum"), (path, function.name))

    def test_only_errors_of_the_program_are_caught(self):
        errors = {node.name for node in trees()[FOLDER / "errors.py"].body if isinstance(node, ast.ClassDef)}
        for path, tree in trees().items():
            for node in ast.walk(tree):
                if isinstance(node, ast.Try):
                    self.assertEqual(node.finalbody, [], path)
                    for handler in node.handlers:
                        self.assertIn(getattr(handler.type, "id", None), errors, path)

    def test_iter_and_type_have_one_form_each(self):
        for path, tree in trees().items():
            named = [node.value for node in ast.walk(tree) if isinstance(node, ast.Attribute) and node.attr == "__name__"]
            methods = [node for node in functions_of(tree) if node.name == "__iter__"]
            returned = [method.body[-1].value for method in methods]
            for node in ast.walk(tree):
                if isinstance(node, ast.Call) and getattr(node.func, "id", None) == "type":
                    self.assertIn(node, named, path)
                if isinstance(node, ast.Call) and getattr(node.func, "id", None) == "iter":
                    self.assertIn(node, returned, path)
            for method in methods:
                self.assertEqual(len(method.body), 1)



def asks_by_own_methods(found):
    """True if a class has a method that Python may run for a test of a value alone or beside a literal."""
    return any(function.name in ("__eq__", "__len__") for tree in found.values() for function in functions_of(tree))


def is_place(node):
    """True for a name, and for an attribute of such."""
    return isinstance(node, ast.Name) or isinstance(node, ast.Attribute) and is_place(node.value)


def is_literal(node):
    return isinstance(node, ast.Constant) and node.value is not Ellipsis


def is_exit_test(node, own_methods):
    """True for what L6 lets an `if` in `__exit__` ask, in a package with or without such own methods."""
    if isinstance(node, ast.BoolOp):
        return all(is_exit_test(part, own_methods) for part in node.values)
    if isinstance(node, ast.UnaryOp):
        return isinstance(node.op, ast.Not) and is_exit_test(node.operand, own_methods)
    if is_place(node):
        return not own_methods and getattr(node, "id", None) != "kind"
    if not isinstance(node, ast.Compare) or len(node.ops) > 1 or not is_place(node.left):
        return False
    if isinstance(node.ops[0], (ast.Is, ast.IsNot)):
        return getattr(node.comparators[0], "value", 0) is None
    told = isinstance(node.ops[0], (ast.Eq, ast.NotEq, ast.Lt, ast.LtE, ast.Gt, ast.GtE))
    return told and is_literal(node.comparators[0]) and not own_methods and getattr(node.left, "id", None) != "kind"


def is_exit_row(node):
    """True for the rows without a test that the package may have in `__exit__`; L6 names some more."""
    if isinstance(node, ast.Pass):
        return True
    if isinstance(node, ast.Return):
        return node.value is None or any(getattr(node.value, "value", 0) is told for told in (None, False))
    if not isinstance(node, ast.Assign) or len(node.targets) > 1:
        return False
    if isinstance(node.targets[0], ast.Name):
        return isinstance(node.value, ast.Attribute) and getattr(node.value.value, "id", None) == "self"
    return is_place(node.targets[0]) and (is_place(node.value) or is_literal(node.value))


def exit_faults(rows, own_methods):
    """The numbers of the rows that cannot stand in `__exit__`, those within an `if` included."""
    faults = []
    for node in rows:
        if isinstance(node, ast.If):
            if not is_exit_test(node.test, own_methods):
                faults.append(node.test.lineno)
            faults.extend(exit_faults(node.body + node.orelse, own_methods))
        elif not is_exit_row(node):
            faults.append(node.lineno)
    return faults


def exits_of(found):
    """The `__exit__` methods of the package."""
    return [function for tree in found.values() for function in functions_of(tree) if function.name == "__exit__"]


class Ends(unittest.TestCase):
    TOLD = ["self.a is None", "self.a is not None", "self.a.b is None", "kept is None", "kind is None",
            "kind is not None", "not self.a is None", "not (self.a is None or kind is None)",
            "self.a is None and kind is not None and not self.b is None"]
    ONLY_WITHOUT_OWN_METHODS = ["self.a", "kept", "not self._is_kept", "self.a == 1", "self.a != 'b'", "kept >= 3",
                                "self.a is None and self.b", "kind is None or not kept"]
    NEVER = ["self.a is True", "self.a is not False", "self.a is kept", "self.a == self.b", "3 <= kept", "kept == -1",
             "self.a()", "len(self.a)", "self.a[0]", "self.a in (1, 2)", "0 < kept < 3", "-kept", "self.a + 1", "True",
             "None is None", "self.a if kept else self.b", "kind", "not kind", "kind == 1", "self.a() is None"]

    def faults_of(self, test, own_methods):
        return exit_faults(ast.parse(f"if {test}:\n    self.a = self.b").body, own_methods)

    def test_the_end_of_a_block_has_only_such_rows(self):
        found = trees()
        exits = exits_of(found)
        self.assertEqual(len(exits), 1)
        self.assertTrue(asks_by_own_methods(found))
        for function in exits:
            self.assertEqual(exit_faults(function.body, True), [])
            self.assertEqual([argument.arg for argument in function.args.args], ["self", "kind", "value", "trace"])
            names = [node for node in ast.walk(function) if isinstance(node, ast.Name)]
            self.assertFalse({node.id for node in names} & {"value", "trace"})
            assigned = [node.id for node in names if isinstance(node.ctx, ast.Store)]
            self.assertEqual(len(assigned), len(set(assigned)))

    def test_tests_as_they_are_told(self):
        for own_methods in (False, True):
            for test in self.TOLD:
                self.assertEqual(self.faults_of(test, own_methods), [], test)
            for test in self.ONLY_WITHOUT_OWN_METHODS:
                self.assertEqual(self.faults_of(test, own_methods), [1] if own_methods else [], test)
            for test in self.NEVER:
                self.assertEqual(self.faults_of(test, own_methods), [1], test)

    def test_rows_as_they_are_told(self):
        for row, told in (("pass", True), ("return", True), ("return None", True), ("return False", True),
                          ("net = self.net", True), ("net.now = self.rows", True), ("self.a.b = net", True),
                          ("self.a = 'b'", True), ("return 0", False), ("return self.a", False),
                          ("return self.a()", False), ("net = net.now", False), ("net = 1", False),
                          ("self.a = -1", False), ("self.a = self.b()", False), ("self.a[0] = net", False),
                          ("a = b = self.net", False), ("self.a, self.b = net", False), ("self.told()", False),
                          ("del net", False), ("raise", False), ("assert net", False)):
            self.assertEqual(exit_faults(ast.parse(row).body, False), [] if told else [1], row)

    def test_own_methods_are_seen(self):
        for name, told in (("__eq__", True), ("__len__", True), ("__contains__", False), ("many", False)):
            tree = ast.parse(f"class Row:\n    def {name}(self):\n        return 0")
            self.assertEqual(asks_by_own_methods({"rows": tree, "other": ast.parse("NORTH = 0")}), told)

    def test_faults_in_every_depth_are_found(self):
        lines = """
class Row:
    def __exit__(self, kind, value, trace):
        net = self.net
        if self.held is None:
            net.rows = self.rows
            if not self.done:
                net.now = 0
                net.shut()
        elif self.done == 1:
            net.rows = []
        else:
            return True
        raise KeyError
"""
        rows = exits_of({"rows": ast.parse(lines)})[0].body
        self.assertEqual(exit_faults(rows, True), [7, 9, 10, 11, 13, 14])
        self.assertEqual(exit_faults(rows, False), [9, 11, 13, 14])


def run_by_operators(found):
    """The functions that operators and properties run, by their names, and the paths of their files."""
    named = {}
    due = []
    for path, tree in found.items():
        for node in ast.walk(tree):
            if isinstance(node, ast.ClassDef):
                methods = [part for part in node.body if isinstance(part, ast.FunctionDef)]
                named.setdefault(node.name, []).extend((path, part) for part in methods if part.name == "__init__")
        for function in functions_of(tree):
            named.setdefault(function.name, []).append((path, function))
            if function.name in OPERATORS or [node.id for node in function.decorator_list] == ["property"]:
                due.append((path, function))
    reached = []
    while due:
        path, function = due.pop()
        if (path, function) not in reached:
            reached.append((path, function))
            calls = [node.func for node in ast.walk(function) if isinstance(node, ast.Call)]
            names = {getattr(call, "id", getattr(call, "attr", None)) for call in calls} - {"__init__"} - MODIFYING
            due.extend(other for name in names for other in named.get(name, []))
    return reached


def attributes_of(found):
    """The names of all attributes that the package assigns."""
    return {node.attr for tree in found.values() for node in ast.walk(tree)
            if isinstance(node, ast.Attribute) and isinstance(node.ctx, ast.Store)}


def held_calls(found):
    """The calls, in what operators and properties run, of what might be passed or held instead of a method."""
    held = attributes_of(found)
    calls = []
    for path, function in run_by_operators(found):
        for node in ast.walk(function):
            name = getattr(getattr(node, "func", None), "id", None)
            attribute = getattr(getattr(node, "func", None), "attr", None)
            if name in bound_in(function) or attribute in held:
                calls.append((function.name, name or attribute))
    return calls


class Operators(unittest.TestCase):
    def test_what_they_run_calls_nothing_that_they_are_passed_or_hold(self):
        self.assertEqual(held_calls(trees()), [])

    def test_calls_of_what_is_passed_or_held_are_found(self):
        lines = """
class Bad:
    def __init__(self, index):
        self.index = index
class Row:
    def __rshift__(self, other):
        return _sum(self, len)
    def __contains__(self, item):
        return item in self.told()
    @property
    def place(self):
        return "ab".index("b")
    def told(self):
        return self.rows.index(0)
    def outside(self):
        return self.rows.index(1)
def _sum(row, call):
    return call(row.told())
"""
        found = held_calls({"rows": ast.parse(lines)})
        self.assertEqual(sorted(found), [("_sum", "call"), ("place", "index"), ("told", "index")])

    def test_what_they_run_changes_only_what_it_made(self):
        reached = run_by_operators(trees())
        self.assertLessEqual({"_rules_behind", "run", "check_text", "_reached_of"}, {part.name for _, part in reached})
        for path, function in reached:
            for node in ast.walk(function):
                place = (path, function.name, getattr(node, "lineno", 0))
                if isinstance(node, (ast.Attribute, ast.Subscript)) and isinstance(node.ctx, ast.Store):
                    new_object = isinstance(node, ast.Attribute) and function.name == "__init__"
                    self.assertTrue(new_object or self.is_made(function, node.value), place)
                if isinstance(node, ast.AugAssign):
                    self.assertIsInstance(node.target, ast.Name, place)
                    self.assertIsInstance(node.value, ast.Constant, place)
                    self.assertIs(type(node.value.value), int, place)
                if isinstance(node, ast.Call) and isinstance(node.func, ast.Attribute) and node.func.attr in MODIFYING:
                    self.assertTrue(self.is_made(function, node.func.value), place)

    def is_made(self, function, value):
        """True if the value is a local variable that is only ever assigned new lists and dicts."""
        if not isinstance(value, ast.Name):
            return False
        assigned = [node.value for node in ast.walk(function) if isinstance(node, ast.Assign)
                    for target in node.targets if isinstance(target, ast.Name) and target.id == value.id]
        made = (ast.List, ast.Dict, ast.ListComp, ast.DictComp)
        return bool(assigned) and all(isinstance(part, made) for part in assigned)


if __name__ == "__main__":
    unittest.main()
