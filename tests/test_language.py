"""What can be told of LANGUAGE.md by looking at the files of the package, with the numbers of its rules."""

import ast
import builtins
import keyword
import os
import re
import unittest

HERE = os.path.dirname(os.path.abspath(__file__))
PACKAGE = os.path.join(os.path.dirname(HERE), "cutledger")
LIBRARY = {"math": {"gcd", "lcm", "isqrt", "comb", "perm", "factorial"}}
BUILTINS = set("""
    len range enumerate zip min max sum abs sorted reversed int str bool list tuple dict set property isinstance ord repr any all divmod
    ValueError KeyError
""".split())
METHODS = set("""
    append clear copy count endswith extend find get index insert isalnum isalpha isdigit islower isspace isupper items join keys
    ljust lower lstrip partition pop remove replace reverse rfind rjust rpartition rsplit rstrip setdefault split splitlines
    startswith strip update upper values zfill bit_length
""".split())
BARRED_ATTRIBUTES = set("""
    items keys values pop update append clear extend insert remove reverse setdefault sort args encode decode hex fromhex format
    as_integer_ratio bit_count conjugate from_bytes is_integer to_bytes format_map mro
""".split())
BARRED_NAMES = set("""
    register mro elements open input law version_info with_traceback add_note attrgetter breakpoint builtins compile copyright
    credits delattr dir eval exec exit gc getattr globals hasattr help id importlib license locals methodcaller os quit setattr
    super type vars sys _cold _tuplegetter _outside _record _written_out _member_names
""".split())
BARRED_WORDS = set("""
    type typing typing_extensions enum Enum IntEnum StrEnum Flag IntFlag Generic Protocol ABC ABCMeta namedtuple NamedTuple TypedDict
    TYPE_CHECKING abstractmethod
""".split())
STATEMENTS = (
    ast.Assign, ast.AugAssign, ast.If, ast.While, ast.For, ast.Return, ast.Break, ast.Continue, ast.Pass, ast.Raise, ast.Assert, ast.Try,
    ast.Expr, ast.FunctionDef, ast.ClassDef, ast.ImportFrom,
)
# Allowed with conditions that this file does not look into, so the package does without them.
UNUSED = (
    ast.Lambda, ast.Set, ast.SetComp, ast.Yield, ast.YieldFrom, ast.Await, ast.NamedExpr, ast.Global, ast.Nonlocal, ast.With, ast.Match,
    ast.Div, ast.MatMult, ast.Delete, ast.AnnAssign,
)
ITERATED = {"zip", "enumerate", "range", "reversed", "items", "keys", "values"}
ITERATES = {"list", "tuple", "dict", "sorted", "sum", "any", "all", "enumerate", "zip", "min", "max"}


def files():
    return sorted(name for name in os.listdir(PACKAGE) if name != "__pycache__")


def read(name):
    with open(os.path.join(PACKAGE, name), encoding="utf-8") as file:
        return file.read()


TREES = {name: ast.parse(read(name)) for name in files()}


def bound_at_top(tree):
    """The names that a file defines itself."""
    names = [node.name for node in tree.body if isinstance(node, (ast.FunctionDef, ast.ClassDef))]
    return names + [node.targets[0].id for node in tree.body if isinstance(node, ast.Assign)]


def imported(tree):
    return [alias.name for node in tree.body if isinstance(node, ast.ImportFrom) for alias in node.names]


def parents(tree):
    return {child: node for node in ast.walk(tree) for child in ast.iter_child_nodes(node)}


def called(node):
    """The name that a call is of."""
    return node.func.id if isinstance(node.func, ast.Name) else getattr(node.func, "attr", None)


def everywhere(*kinds):
    for name, tree in TREES.items():
        for node in ast.walk(tree):
            if isinstance(node, kinds):
                yield name, node


class Files(unittest.TestCase):
    def test_names_and_characters(self):
        self.assertIn("__init__.py", files())
        for name in files():
            text = read(name)
            self.assertTrue(re.fullmatch(r"[a-z0-9_]+\.py", name), name)
            self.assertTrue(all(sign == "\n" or " " <= sign <= "~" for sign in text), name)
            self.assertTrue(all(len(line) <= 120 for line in text.split("\n")), name)
            self.assertLessEqual(text.count("\n"), 399, name)
            self.assertNotIn(name[:-3], dir(builtins))
            for barred in ("_wall", "dataclass", "overload", "contextmanager"):
                self.assertNotIn(barred, text)

    def test_lengths_of_functions(self):
        for name, node in everywhere(ast.FunctionDef):
            self.assertLessEqual(node.end_lineno - node.lineno + 1, 40, (name, node.name))

    def test_imports(self):
        graph = {}
        for name, tree in TREES.items():
            graph[name] = []
            for node in ast.walk(tree):
                self.assertNotIsInstance(node, ast.Import, name)
            for node in tree.body:
                if not isinstance(node, ast.ImportFrom):
                    continue
                self.assertTrue(node.level == 0 and all(alias.asname is None and alias.name != "*" for alias in node.names))
                if node.module in LIBRARY:
                    self.assertTrue(set(alias.name for alias in node.names) <= LIBRARY[node.module])
                    continue
                package, file = node.module.split(".")
                self.assertEqual(package, "cutledger")
                graph[name].append(file + ".py")
                for alias in node.names:
                    self.assertIn(alias.name, bound_at_top(TREES[file + ".py"]), (name, alias.name))
        while graph:
            free = [name for name in graph if not any(other in graph for other in graph[name])]
            self.assertTrue(free, f"files import from each other: {sorted(graph)}")
            graph = {name: graph[name] for name in graph if name not in free}

    def test_imports_are_used(self):
        for name, tree in TREES.items():
            read_names = [node.id for node in ast.walk(tree) if isinstance(node, ast.Name)]
            for word in imported(tree):
                self.assertIn(word, read_names, name)

    def test_module_level(self):
        for name, tree in TREES.items():
            bound = bound_at_top(tree) + imported(tree)
            self.assertEqual(len(bound), len(set(bound)), name)
            for at, node in enumerate(tree.body):
                if isinstance(node, ast.Assign):
                    self.assertTrue(len(node.targets) == 1 and isinstance(node.targets[0], ast.Name))
                    for part in ast.walk(node.value):
                        self.assertNotIsInstance(part, (ast.Call, ast.List, ast.Dict, ast.Lambda), name)
                elif isinstance(node, ast.Expr):
                    self.assertTrue(at == 0 and isinstance(node.value, ast.Constant))
                else:
                    self.assertIsInstance(node, (ast.ImportFrom, ast.FunctionDef, ast.ClassDef))


class Statements(unittest.TestCase):
    def test_kinds(self):
        for name, node in everywhere(ast.stmt):
            self.assertIsInstance(node, STATEMENTS, name)
        for name, node in everywhere(*UNUSED):
            self.fail(f"{name}: {ast.dump(node)[:80]}")

    def test_functions_have_no_decorators_but_property_and_plain_parameters(self):
        for name, node in everywhere(ast.FunctionDef):
            self.assertIn([ast.unparse(one) for one in node.decorator_list], [[], ["property"]])
            given = node.args
            self.assertFalse(given.vararg or given.kwarg or given.kwonlyargs or given.posonlyargs or given.kw_defaults, name)
            self.assertFalse(node.returns or any(one.annotation for one in given.args))
            nested = [part for part in ast.walk(node) if isinstance(part, ast.FunctionDef) and part is not node]
            self.assertEqual(nested, [])

    def test_classes(self):
        for name, node in everywhere(ast.ClassDef):
            self.assertEqual(node.decorator_list, [])
            methods = [part.name for part in node.body if isinstance(part, ast.FunctionDef)]
            stored = [part.attr for part in ast.walk(node) if isinstance(part, ast.Attribute) and isinstance(part.ctx, ast.Store)]
            self.assertEqual(len(methods), len(set(methods)))
            self.assertFalse(set(methods) & set(stored), (name, node.name))
            self.assertFalse(set(stored) & BARRED_ATTRIBUTES)
            self.assertTrue(all(method == "__init__" or not method.startswith("__") for method in methods))
            for part in node.body:
                self.assertTrue(isinstance(part, ast.FunctionDef) or isinstance(part.value, ast.Constant))

    def test_handlers_name_own_errors(self):
        own = bound_at_top(TREES["errors.py"])
        for name, node in everywhere(ast.ExceptHandler):
            self.assertIsNone(node.name)
            for caught in node.type.elts if isinstance(node.type, ast.Tuple) else [node.type]:
                self.assertIn(caught.id, own, name)
        for name, tree in TREES.items():
            above = parents(tree)
            for node in ast.walk(tree):
                if isinstance(node, ast.Raise) and node.exc is None:
                    self.assertIsInstance(above[node], ast.ExceptHandler, name)
                elif isinstance(node, ast.Raise):
                    self.assertTrue(isinstance(node.exc, ast.Call) and node.exc.func.id in own, name)
                    self.assertEqual(node.exc.keywords, [])


class Names(unittest.TestCase):
    def test_plain_names(self):
        for name, node in everywhere(ast.Name, ast.arg, ast.FunctionDef, ast.ClassDef, ast.Attribute):
            word = {ast.Name: "id", ast.arg: "arg", ast.Attribute: "attr"}.get(node.__class__, "name")
            word = getattr(node, word)
            self.assertTrue(word == "__init__" or not word.startswith("__"), name)
            self.assertFalse(word in BARRED_NAMES and not isinstance(node, ast.Attribute), (name, word))
            self.assertFalse(keyword.issoftkeyword(word) and word != "_", (name, word))

    def test_no_name_is_that_of_a_builtin(self):
        for name, node in everywhere(ast.Name):
            if isinstance(node.ctx, ast.Store):
                self.assertFalse(node.id in dir(builtins), (name, node.id))
            if node.id in dir(builtins):
                self.assertIn(node.id, BUILTINS, name)
        for name, node in everywhere(ast.arg, ast.FunctionDef, ast.ClassDef):
            self.assertNotIn(node.arg if isinstance(node, ast.arg) else node.name, dir(builtins), name)

    def test_locals_have_no_names_of_the_file(self):
        for name, tree in TREES.items():
            barred = set(imported(tree) + bound_at_top(tree))
            for function in ast.walk(tree):
                if isinstance(function, ast.FunctionDef):
                    bound = [part.arg for part in ast.walk(function) if isinstance(part, ast.arg)]
                    bound += [part.id for part in ast.walk(function) if isinstance(part, ast.Name) and isinstance(part.ctx, ast.Store)]
                    self.assertFalse(barred & set(bound), (name, function.name, barred & set(bound)))
                    self.assertNotIn("_", [part.id for part in ast.walk(function)
                                           if isinstance(part, ast.Name) and isinstance(part.ctx, ast.Load)])

    def test_methods_that_are_called(self):
        own = set(node.name for _, node in everywhere(ast.FunctionDef))
        for name, node in everywhere(ast.Call):
            if isinstance(node.func, ast.Attribute):
                self.assertIn(node.func.attr, METHODS | own, name)
            else:
                self.assertIsInstance(node.func, ast.Name, name)
            if called(node) in BUILTINS | METHODS:
                self.assertTrue(set(word.arg for word in node.keywords) <= {"default", "start"}, name)

    def test_properties_are_neither_assigned_nor_called(self):
        known = [node.name for _, node in everywhere(ast.FunctionDef) if node.decorator_list]
        methods = [node.name for _, tree in everywhere(ast.ClassDef) for node in tree.body
                   if isinstance(node, ast.FunctionDef) and not node.decorator_list]
        self.assertFalse(set(known) & (set(methods) | METHODS))
        for name, node in everywhere(ast.Attribute):
            self.assertFalse(node.attr in known and isinstance(node.ctx, ast.Store), (name, node.attr))
        for name, node in everywhere(ast.Call):
            self.assertFalse(isinstance(node.func, ast.Attribute) and node.func.attr in known, (name, node.lineno))

    def test_properties_only_return(self):
        for name, node in everywhere(ast.FunctionDef):
            if node.decorator_list:
                self.assertTrue(len(node.body) == 2 and isinstance(node.body[1], ast.Return), (name, node.name))
                for part in ast.walk(node.body[1]):
                    if isinstance(part, ast.Call):
                        self.assertIn(called(part), ("len", "tuple"))

    def test_a_name_is_not_a_method_here_and_an_attribute_there(self):
        methods = set(part.name for _, node in everywhere(ast.ClassDef) for part in node.body if isinstance(part, ast.FunctionDef))
        stored = set(node.attr for _, node in everywhere(ast.Attribute) if isinstance(node.ctx, ast.Store))
        self.assertEqual(methods & stored, set())

    def test_attributes_that_are_read_are_assigned(self):
        stored = set(node.attr for _, node in everywhere(ast.Attribute) if isinstance(node.ctx, ast.Store))
        own = set(node.name for _, node in everywhere(ast.FunctionDef))
        for name, node in everywhere(ast.Attribute):
            self.assertIn(node.attr, stored | own | METHODS, name)


class Values(unittest.TestCase):
    def test_constants(self):
        for name, node in everywhere(ast.Constant):
            self.assertIn(type(node.value), (int, str, bool, type(None)), name)

    def test_strings(self):
        for name, tree in TREES.items():
            docstrings = [node.body[0].value for node in ast.walk(tree)
                          if isinstance(node, (ast.Module, ast.FunctionDef, ast.ClassDef)) and ast.get_docstring(node) is not None]
            for node in ast.walk(tree):
                if isinstance(node, ast.Constant) and isinstance(node.value, str):
                    self.assertNotIn("%", node.value, name)
                    if node not in docstrings:
                        self.assertFalse(set(re.findall(r"\w+", node.value)) & BARRED_WORDS, name)
            words = [node.id for node in ast.walk(tree) if isinstance(node, ast.Name)]
            self.assertFalse(set(words) & BARRED_WORDS, name)

    def test_escapes(self):
        for name in TREES:
            for escape in re.findall(r"\\(.)", read(name), re.DOTALL):
                self.assertIn(escape, "nt\\\"'", name)

    def test_sets_are_used_at_once(self):
        for name, tree in TREES.items():
            above = parents(tree)
            for node in ast.walk(tree):
                if isinstance(node, ast.Call) and called(node) == "set":
                    place = above[node]
                    self.assertTrue(isinstance(place, ast.Call) and called(place) in ("len", "sorted"), (name, node.lineno))

    def test_is(self):
        for name, node in everywhere(ast.Compare):
            for sign, other in zip(node.ops, node.comparators):
                if isinstance(sign, (ast.Is, ast.IsNot)):
                    self.assertTrue(isinstance(other, ast.Constant) and other.value in (None, True, False), name)

    def test_exponents_are_literals(self):
        for name, node in everywhere(ast.BinOp):
            if isinstance(node.op, ast.Pow):
                self.assertTrue(isinstance(node.right, ast.Constant) and 0 <= node.right.value <= 64, name)

    def test_generator_expressions_stand_alone_in_a_call(self):
        for name, tree in TREES.items():
            above = parents(tree)
            for node in ast.walk(tree):
                if isinstance(node, ast.GeneratorExp):
                    call = above[node]
                    self.assertTrue(isinstance(call, ast.Call) and len(call.args) == 1 and not call.keywords, name)
                    self.assertIn(called(call), ITERATES)

    def test_what_is_iterated_at_once(self):
        for name, tree in TREES.items():
            above = parents(tree)
            for node in ast.walk(tree):
                if isinstance(node, ast.Call) and called(node) in ITERATED:
                    place = above[node]
                    loops = isinstance(place, (ast.For, ast.comprehension)) and place.iter is node
                    passed = isinstance(place, ast.Call) and called(place) in ITERATES and place.args[0] is node
                    self.assertTrue(loops or passed, (name, node.lineno))

    def test_what_a_loop_goes_over_is_not_modified_by_its_name(self):
        for name, node in everywhere(ast.For):
            gone_over = [ast.dump(part).replace("Store()", "Load()") for part in ast.walk(node.iter)
                         if isinstance(part, (ast.Name, ast.Attribute))]
            for part in [part for row in node.body for part in ast.walk(row)]:
                if isinstance(part, ast.Subscript) and isinstance(part.ctx, ast.Store):
                    self.assertNotIn(ast.dump(part.value), gone_over, (name, part.lineno))
                if isinstance(part, ast.Call) and called(part) in ("append", "extend", "pop", "insert", "remove", "clear"):
                    self.assertNotIn(ast.dump(part.func.value), gone_over, (name, part.lineno))


if __name__ == "__main__":
    unittest.main()
