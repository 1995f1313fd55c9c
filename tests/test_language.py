"""The package keeps to those rules of the language that can be read off its files."""

import ast
import builtins
import os
import re
import tokenize
import unittest

PACKAGE = os.path.join(os.path.dirname(os.path.dirname(os.path.abspath(__file__))), "hallofwords")

LIBRARY = {"heapq": {"heappush", "heappop"}, "math": {"gcd", "lcm"}}
ALLOWED_BUILTINS = set(
    "len range enumerate zip min max sum abs sorted reversed int str bool list tuple dict set isinstance ord repr"
    " any all divmod map iter next property Exception ValueError TypeError KeyError IndexError".split()
)
ALLOWED_METHODS = set(
    "append clear copy count endswith extend find get index insert isalnum isalpha isdigit islower isspace isupper"
    " items join keys ljust lower lstrip partition pop remove replace reverse rfind rjust rpartition rsplit rstrip"
    " setdefault split splitlines startswith strip update upper values zfill bit_length add discard sort".split()
)
BARRED_WORDS = set(
    "type typing typing_extensions enum Enum IntEnum StrEnum Flag IntFlag Generic Protocol ABC ABCMeta namedtuple"
    " NamedTuple TypedDict TYPE_CHECKING abstractmethod dataclass overload contextmanager mro elements open input law"
    " version_info with_traceback add_note register attrgetter breakpoint builtins compile copyright credits delattr"
    " dir eval exec exit gc getattr globals hasattr help id importlib license locals methodcaller os quit setattr"
    " vars sys async await global".split()
)
ALLOWED_NODES = (
    "Module FunctionDef ClassDef Return Delete Assign AugAssign For While If Raise Assert ImportFrom Nonlocal Expr Pass"
    " Break Continue Try ExceptHandler BoolOp NamedExpr BinOp UnaryOp Lambda IfExp Dict Set ListComp SetComp DictComp"
    " GeneratorExp Yield YieldFrom Compare Call FormattedValue JoinedStr Constant Attribute Subscript Starred Name List"
    " Tuple Slice Load Store Del And Or Add Sub Mult Mod Pow LShift RShift BitOr BitXor BitAnd FloorDiv Invert Not"
    " UAdd USub Eq NotEq Lt LtE Gt GtE Is IsNot In NotIn comprehension arguments arg keyword alias"
).split()


def files():
    return sorted(os.listdir(PACKAGE))


def text_of(name):
    with open(os.path.join(PACKAGE, name), encoding="utf-8", newline="") as file:
        return file.read()


def trees():
    return {name: ast.parse(text_of(name)) for name in files() if name.endswith(".py")}


def assigned_names(tree):
    for node in ast.walk(tree):
        if isinstance(node, (ast.FunctionDef, ast.ClassDef)):
            yield node.name
        if isinstance(node, ast.Name) and isinstance(node.ctx, ast.Store):
            yield node.id
        if isinstance(node, ast.arg):
            yield node.arg
        if isinstance(node, ast.alias):
            yield node.asname or node.name


class LanguageTest(unittest.TestCase):
    def nodes(self, *kinds):
        for name, tree in trees().items():
            for node in ast.walk(tree):
                if isinstance(node, kinds):
                    yield f"{name}:{getattr(node, 'lineno', 0)}", node

    def test_files(self):
        names = [name for name in files() if name != "__pycache__"]
        self.assertIn("__init__.py", names)
        for name in names:
            self.assertRegex(name, r"^([a-z][a-z0-9_]*|__init__)\.py$")

    def test_characters_and_sizes(self):
        for name in trees():
            lines = text_of(name).split("\n")
            self.assertLessEqual(len(lines) - 1, 399, name)
            for number, line in enumerate(lines, start=1):
                self.assertRegex(line, r"^[ -~]{0,120}$", f"{name}:{number}")

    def test_functions_are_short(self):
        for where, node in self.nodes(ast.FunctionDef):
            self.assertLessEqual(node.end_lineno - node.lineno + 1, 40, where)

    def test_only_allowed_statements_and_signs(self):
        for where, node in self.nodes(ast.AST):
            self.assertIn(type(node).__name__, ALLOWED_NODES, where)

    def test_no_annotations_and_no_decorators(self):
        for where, node in self.nodes(ast.FunctionDef, ast.ClassDef, ast.arg):
            decorators = [ast.unparse(decorator) for decorator in getattr(node, "decorator_list", [])]
            if decorators == ["property"]:
                self.assertEqual([arg.arg for arg in node.args.args], ["self"], where)
                self.assertIsInstance(node.body[-1], ast.Return, where)
            else:
                self.assertEqual(decorators, [], where)
            self.assertIsNone(getattr(node, "returns", None), where)
            self.assertIsNone(getattr(node, "annotation", None), where)

    def test_imports_come_from_the_very_files(self):
        defined = {name[:-3]: {node.name for node in tree.body if hasattr(node, "name")} | set(module_names(tree))
                   for name, tree in trees().items()}
        for where, node in self.nodes(ast.ImportFrom):
            if node.module in LIBRARY:
                self.assertLessEqual({alias.name for alias in node.names}, LIBRARY[node.module], where)
                self.assertEqual({alias.asname for alias in node.names}, {None}, where)
                continue
            self.assertRegex(node.module, r"^hallofwords\.[a-z_]+$", where)
            for alias in node.names:
                self.assertIsNone(alias.asname, where)
                self.assertIn(alias.name, defined[node.module.split(".")[1]], where)

    def test_no_rings_of_imports(self):
        leads = {name[:-3]: {node.module.split(".")[1] for node in ast.walk(tree)
                             if isinstance(node, ast.ImportFrom) and node.module not in LIBRARY}
                 for name, tree in trees().items()}
        while leads:
            free = [name for name, needed in leads.items() if not needed & set(leads)]
            self.assertTrue(free, leads)
            for name in free:
                del leads[name]

    def test_every_import_is_used(self):
        for name, tree in trees().items():
            used = {node.id for node in ast.walk(tree) if isinstance(node, ast.Name)}
            for node in tree.body:
                if isinstance(node, ast.ImportFrom):
                    self.assertLessEqual({alias.name for alias in node.names}, used, name)

    def test_module_level_holds_plain_values_alone(self):
        for name, tree in trees().items():
            for node in tree.body:
                self.assertIsInstance(node, (ast.Expr, ast.ImportFrom, ast.FunctionDef, ast.ClassDef, ast.Assign), name)
                if isinstance(node, ast.Expr):
                    self.assertIsInstance(node.value, ast.Constant, name)
            bound = [n for n in module_names(tree)]
            bound += [node.name for node in tree.body if hasattr(node, "name")]
            bound += [alias.name for node in tree.body if isinstance(node, ast.ImportFrom) for alias in node.names]
            self.assertEqual(len(bound), len(set(bound)), name)

    def test_names(self):
        for name, tree in trees().items():
            taken = {node.name for node in tree.body if isinstance(node, ast.ClassDef)}
            taken |= {alias.name for node in tree.body if isinstance(node, ast.ImportFrom) for alias in node.names}
            for found in assigned_names(tree):
                if found == "_" or found in ("__init__", "__len__", "__contains__"):
                    continue
                self.assertRegex(found, r"^_?[A-Za-z][A-Za-z0-9_]*$", name)
                self.assertFalse(hasattr(builtins, found), f"{name}: {found}")
                self.assertNotIn(found, BARRED_WORDS, name)
            for node in ast.walk(tree):
                if isinstance(node, ast.FunctionDef) and node not in tree.body:
                    self.assertNotIn(node.name, taken, name)
                if isinstance(node, ast.Name) and isinstance(node.ctx, ast.Store):
                    self.assertNotIn(node.id, taken, f"{name}: {node.id}")
                if isinstance(node, ast.arg):
                    self.assertNotIn(node.arg, taken, f"{name}: {node.arg}")

    def test_barred_words_stand_in_no_code_and_no_string(self):
        for name in trees():
            with open(os.path.join(PACKAGE, name), "rb") as file:
                for token in tokenize.tokenize(file.readline):
                    if token.type == tokenize.NAME:
                        self.assertNotIn(token.string, BARRED_WORDS, f"{name}:{token.start}")

    def test_builtins(self):
        for where, node in self.nodes(ast.Name):
            if isinstance(node.ctx, ast.Load) and hasattr(builtins, node.id):
                self.assertIn(node.id, ALLOWED_BUILTINS, where)

    def test_methods(self):
        own = {node.name for _, node in self.nodes(ast.FunctionDef)}
        for where, node in self.nodes(ast.Call):
            if isinstance(node.func, ast.Attribute) and node.func.attr != "__init__":
                self.assertIn(node.func.attr, ALLOWED_METHODS | own, where)

    def test_attributes_and_methods_have_names_of_their_own(self):
        methods = {node.name for _, owner in self.nodes(ast.ClassDef) for node in owner.body
                   if isinstance(node, ast.FunctionDef)}
        for where, node in self.nodes(ast.Attribute):
            if isinstance(node.ctx, ast.Store):
                self.assertNotIn(node.attr, methods, where)
                self.assertFalse(any(hasattr(kind, node.attr) for kind in (str, int, list, dict, set)), where)

    def test_what_a_class_with_a_length_asks_for(self):
        for where, node in self.nodes(ast.FunctionDef):
            if node.name == "__len__":
                self.assertRegex(ast.unparse(node.body[-1]), r"^return len\(", where)
        for where, node in self.nodes(ast.Call):
            if isinstance(node.func, ast.Attribute):
                self.assertNotEqual(node.func.attr, "sort", where)
            elif node.func.id == "sorted":
                self.assertNotIsInstance(node.args[0], ast.GeneratorExp, where)

    def test_strings_and_numbers(self):
        for where, node in self.nodes(ast.Constant):
            self.assertNotIsInstance(node.value, (float, complex, bytes), where)
            if isinstance(node.value, str):
                self.assertNotIn("%", node.value, where)
                self.assertFalse(re.search(r"[^\n -~]", node.value), where)

    def test_sets_stand_where_they_may(self):
        for name, tree in trees().items():
            parents = {child: node for node in ast.walk(tree) for child in ast.iter_child_nodes(node)}
            for node in ast.walk(tree):
                plain = isinstance(node, ast.Call) and isinstance(node.func, ast.Name) and node.func.id == "set"
                if plain or isinstance(node, (ast.Set, ast.SetComp)):
                    above = parents[node]
                    self.assertTrue(
                        isinstance(above, ast.Compare)
                        or isinstance(above, ast.Call) and above.func.id in ("sorted", "len"),
                        f"{name}:{node.lineno}",
                    )

    def test_powers_have_literal_exponents(self):
        for where, node in self.nodes(ast.BinOp):
            if isinstance(node.op, ast.Pow):
                self.assertIsInstance(node.right, ast.Constant, where)

    def test_is_stands_beside_none_and_truth_alone(self):
        for where, node in self.nodes(ast.Compare):
            for op, right in zip(node.ops, node.comparators):
                if isinstance(op, (ast.Is, ast.IsNot)):
                    self.assertIsInstance(right, ast.Constant, where)

    def test_default_values_are_plain(self):
        for where, node in self.nodes(ast.arguments):
            for value in node.defaults + [value for value in node.kw_defaults if value is not None]:
                self.assertIsInstance(value, (ast.Constant, ast.Tuple), where)

    def test_lazy_values_are_iterated_at_once(self):
        for where, node in self.nodes(ast.Assign, ast.Return):
            if isinstance(node.value, ast.Call) and isinstance(node.value.func, ast.Name):
                self.assertNotIn(node.value.func.id, ("zip", "enumerate", "reversed", "map"), where)
            self.assertNotIsInstance(node.value, (ast.GeneratorExp, ast.Set, ast.SetComp), where)


def module_names(tree):
    for node in tree.body:
        if isinstance(node, ast.Assign):
            for target in node.targets:
                yield target.id


if __name__ == "__main__":
    unittest.main()
