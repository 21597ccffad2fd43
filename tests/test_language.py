"""The files of the package keep to the rules of the language that can be seen in their syntax."""

import ast
import builtins
import pathlib
import unittest

ROOT = pathlib.Path(__file__).resolve().parent.parent
PACKAGE = ROOT / "drawnlayers"
FILES = sorted(PACKAGE.rglob("*.py"))

BUILTINS = set(
    "len range enumerate zip min max sum abs sorted reversed int str bool bytes list tuple dict set isinstance ord repr "
    "any all divmod iter next map Exception ValueError TypeError KeyError IndexError LookupError ZeroDivisionError "
    "NotImplemented property staticmethod classmethod super".split()
)
BUILTIN_METHODS = set(
    "append clear copy count endswith extend find get index insert isalnum isalpha isdigit islower isspace isupper items "
    "join keys ljust lower lstrip partition pop remove replace reverse rfind rjust rpartition rsplit rstrip setdefault "
    "split splitlines startswith strip update upper values zfill bit_length add discard".split()
)
BARRED_EVERYWHERE = set(
    "register mro elements open input law version_info with_traceback add_note type typing enum Enum Flag Generic "
    "Protocol ABC ABCMeta namedtuple abstractmethod dataclass overload contextmanager global eval exec compile vars dir "
    "id help license locals globals quit exit os gc sys".split()
)
BARRED_ATTRIBUTES = set(
    "items keys values pop update append clear extend insert remove reverse setdefault sort args encode decode hex "
    "fromhex format".split()
)
BARRED_NODES = (
    ast.AsyncFunctionDef, ast.AsyncFor, ast.AsyncWith, ast.Await, ast.Global, ast.Nonlocal, ast.NamedExpr, ast.Div,
    ast.MatMult, ast.Match, ast.GeneratorExp, ast.SetComp, ast.AnnAssign,
)
# What may be imported from outside of the package.
LIBRARY = {"math": {"gcd", "lcm", "isqrt", "comb", "perm", "factorial"}}
MODIFYING = set("append clear extend insert pop remove reverse setdefault update sort".split())
OPERATORS = set(
    "__init__ __eq__ __repr__ __str__ __len__ __enter__ __exit__ __call__ __iter__ __lt__ __le__ __gt__ __ge__ __ne__ "
    "__add__ __radd__ __iadd__ __sub__ __rsub__ __mul__ __rmul__ __floordiv__ __mod__ __pow__ __and__ __or__ "
    "__lshift__ __rshift__ __neg__ __abs__ __contains__ __getitem__ __setitem__".split()
)


def module_name(path):
    return ".".join(path.relative_to(ROOT).with_suffix("").parts)


def bound_names(tree):
    """All names that a file gives to functions, classes, variables and parameters."""
    for node in ast.walk(tree):
        if isinstance(node, (ast.FunctionDef, ast.ClassDef)):
            yield node, node.name
        elif isinstance(node, ast.arg):
            yield node, node.arg
        elif isinstance(node, ast.Name) and isinstance(node.ctx, ast.Store):
            yield node, node.id
        elif isinstance(node, ast.alias):
            yield node, node.name


def is_property(node):
    return any(ast.unparse(decorator) == "property" for decorator in node.decorator_list)


def class_parts(tree):
    """Pairs of each class of a file and each function in its body."""
    for node in tree.body:
        if isinstance(node, ast.ClassDef):
            for part in node.body:
                if isinstance(part, ast.FunctionDef):
                    yield node, part


def own_methods():
    found = set()
    for path in FILES:
        for node in ast.walk(ast.parse(path.read_text())):
            if isinstance(node, ast.ClassDef):
                found.update(part.name for part in node.body if isinstance(part, ast.FunctionDef))
    return found


class LanguageTest(unittest.TestCase):
    def test_each_rule_in_each_file(self):
        rules = [name for name in dir(self) if name.startswith("rule_")]
        for path in FILES:
            source = path.read_text(encoding="ascii")
            for rule in rules:
                with self.subTest(file=str(path.relative_to(ROOT)), rule=rule):
                    getattr(self, rule)(source, ast.parse(source))

    def test_there_are_only_python_files(self):
        for path in PACKAGE.rglob("*"):
            if path.is_file() and "__pycache__" not in path.parts:
                self.assertEqual(path.suffix, ".py", path)
            elif path.is_dir() and path.name != "__pycache__":
                self.assertTrue((path / "__init__.py").exists(), path)

    def rule_sizes_and_characters(self, source, tree):
        self.assertLessEqual(len(FILES), 100)
        lines = source.split("\n")
        self.assertLessEqual(len(lines) - 1, 399)
        self.assertLessEqual(max(len(line) for line in lines), 120)
        self.assertTrue(all(" " <= sign <= "~" or sign == "\n" for sign in source))
        self.assertFalse(any(line.endswith(" ") for line in lines))
        self.assertTrue(source.endswith("\n"))
        for node in ast.walk(tree):
            if isinstance(node, ast.FunctionDef):
                self.assertLessEqual(node.end_lineno - node.lineno + 1, 40, node.name)

    def rule_imports_name_the_file_that_defines(self, source, tree):
        for node in ast.walk(tree):
            self.assertNotIsInstance(node, ast.Import)
            if isinstance(node, ast.ImportFrom):
                self.assertIn(node, tree.body)
                self.assertEqual(node.level, 0)
                if node.module in LIBRARY:
                    self.assertLessEqual({alias.name for alias in node.names}, LIBRARY[node.module])
                    continue
                target = ROOT.joinpath(*node.module.split(".")).with_suffix(".py")
                self.assertTrue(target.exists(), node.module)
                defined = set()
                for other in ast.parse(target.read_text()).body:
                    if isinstance(other, (ast.FunctionDef, ast.ClassDef)):
                        defined.add(other.name)
                    elif isinstance(other, ast.Assign):
                        defined.add(other.targets[0].id)
                for alias in node.names:
                    self.assertIsNone(alias.asname)
                    self.assertIn(alias.name, defined, node.module)

    def rule_every_import_is_used(self, source, tree):
        used = {node.id for node in ast.walk(tree) if isinstance(node, ast.Name)}
        for node in tree.body:
            if isinstance(node, ast.ImportFrom):
                for alias in node.names:
                    self.assertIn(alias.name, used)

    def test_no_two_files_import_from_each_other(self):
        wanted = {}
        for path in FILES:
            tree = ast.parse(path.read_text())
            imports = [node.module for node in tree.body if isinstance(node, ast.ImportFrom)]
            wanted[module_name(path)] = [module for module in imports if module not in LIBRARY]

        def visit(name, above):
            self.assertNotIn(name, above)
            for other in wanted[name]:
                visit(other, above + [name])

        for name in wanted:
            visit(name, [])

    def rule_module_level(self, source, tree):
        names = []
        for at, node in enumerate(tree.body):
            if isinstance(node, ast.Expr):
                self.assertEqual(at, 0)
                self.assertIsInstance(node.value, ast.Constant)
            elif isinstance(node, ast.Assign):
                self.assertEqual(len(node.targets), 1)
                names.append(node.targets[0].id)
                for part in ast.walk(node.value):
                    self.assertNotIsInstance(part, (ast.Call, ast.ListComp, ast.Lambda, ast.Set))
                    if part is not node.value:
                        self.assertNotIsInstance(part, (ast.List, ast.Dict))
            elif isinstance(node, (ast.FunctionDef, ast.ClassDef)):
                names.append(node.name)
            else:
                self.assertIsInstance(node, ast.ImportFrom)
                names.extend(alias.name for alias in node.names)
        self.assertEqual(len(names), len(set(names)))

    def rule_no_barred_syntax(self, source, tree):
        for node in ast.walk(tree):
            self.assertNotIsInstance(node, BARRED_NODES, getattr(node, "lineno", None))
            if isinstance(node, ast.Constant):
                self.assertNotIsInstance(node.value, (float, complex))
                if isinstance(node.value, str):
                    self.assertNotIn(chr(37), node.value)
            if isinstance(node, ast.Compare):
                for kind, right in zip(node.ops, node.comparators):
                    if isinstance(kind, (ast.Is, ast.IsNot)):
                        self.assertIsInstance(right, ast.Constant)
            if isinstance(node, ast.BinOp) and isinstance(node.op, ast.Pow):
                self.assertIsInstance(node.right, ast.Constant)

    def rule_no_star_in_an_index(self, source, tree):
        for node in ast.walk(tree):
            if isinstance(node, ast.Subscript):
                self.assertFalse(any(isinstance(part, ast.Starred) for part in ast.walk(node.slice)), node.lineno)

    def rule_names(self, source, tree):
        known = set(dir(builtins))
        imported = {alias.name for node in tree.body if isinstance(node, ast.ImportFrom) for alias in node.names}
        classes = {node.name for node in tree.body if isinstance(node, ast.ClassDef)}
        for node, name in bound_names(tree):
            where = (name, getattr(node, "lineno", None))
            self.assertNotIn(name, known, where)
            self.assertNotIn(name, BARRED_EVERYWHERE, where)
            if name.startswith("__"):
                self.assertIn(name, OPERATORS, where)
            if not isinstance(node, (ast.alias, ast.ClassDef)):
                self.assertNotIn(name, imported | classes, where)
        for node in ast.walk(tree):
            if isinstance(node, ast.Name) and isinstance(node.ctx, ast.Load) and node.id in known:
                self.assertIn(node.id, BUILTINS)

    def rule_attributes_and_methods(self, source, tree):
        own = own_methods()
        for node in ast.walk(tree):
            if isinstance(node, ast.Call) and isinstance(node.func, ast.Attribute):
                self.assertIn(node.func.attr, own | BUILTIN_METHODS)
            if isinstance(node, ast.Attribute) and isinstance(node.ctx, ast.Store):
                self.assertNotIn(node.attr, BARRED_ATTRIBUTES | BARRED_EVERYWHERE)

    def rule_decorators_and_errors(self, source, tree):
        for node in ast.walk(tree):
            if isinstance(node, (ast.FunctionDef, ast.ClassDef)):
                for decorator in node.decorator_list:
                    self.assertIn(ast.unparse(decorator).split(".")[-1], ("property", "staticmethod", "classmethod", "setter"))
            if isinstance(node, ast.Raise) and node.exc is not None:
                self.assertIsInstance(node.exc, ast.Call)
            if isinstance(node, ast.ExceptHandler):
                self.assertIsNotNone(node.type)
                self.assertNotIn(ast.unparse(node.type), ("Exception", "ValueError", "IndexError", "LookupError"))

    def rule_operators_and_properties_change_nothing(self, source, tree):
        for _, part in class_parts(tree):
            is_operator = part.name in OPERATORS - set("__init__ __enter__ __exit__ __iadd__ __setitem__".split())
            if not is_operator and not is_property(part):
                continue
            for node in ast.walk(part):
                self.assertNotIsInstance(node, (ast.AugAssign, ast.Delete, ast.Yield), part.name)
                if isinstance(node, (ast.Attribute, ast.Subscript)):
                    self.assertIsInstance(node.ctx, ast.Load, part.name)
                if isinstance(node, ast.Call) and isinstance(node.func, ast.Attribute):
                    self.assertNotIn(node.func.attr, MODIFYING, part.name)

    def rule_names_of_operators_parameters(self, source, tree):
        wanted = {"__contains__": ["self", "x"], "__getitem__": ["self", "at"], "__setitem__": ["self", "at", "worth"]}
        wanted.update({name: ["self"] for name in ("__neg__", "__abs__", "__len__", "__iter__", "__enter__")})
        free = ("__init__", "__call__", "__exit__")
        for _, part in class_parts(tree):
            if part.name in OPERATORS and part.name not in free:
                self.assertEqual([arg.arg for arg in part.args.args], wanted.get(part.name, ["self", "other"]))

    def rule_the_end_of_a_with_block(self, source, tree):
        for _, part in class_parts(tree):
            if part.name == "__exit__":
                for row in part.body:
                    self.assertIsInstance(row, ast.Assign)
                    self.assertIsInstance(row.value, (ast.Attribute, ast.Constant))

    def rule_super(self, source, tree):
        calls = [node for node in ast.walk(tree) if isinstance(node, ast.Name) and node.id == "super"]
        direct = 0
        for _, part in class_parts(tree):
            for row in part.body:
                value = getattr(row, "value", None)
                direct += isinstance(value, ast.Call) and ast.unparse(value.func) == "super()." + part.name
        self.assertEqual(len(calls), direct)

    def rule_names_of_caught_errors(self, source, tree):
        for function in ast.walk(tree):
            if isinstance(function, ast.FunctionDef):
                names = [node.name for node in ast.walk(function) if isinstance(node, ast.ExceptHandler) and node.name]
                self.assertEqual(len(names), len(set(names)), function.name)

    def rule_no_sorting_in_place_beside_comparing_classes(self, source, tree):
        self.assertNotIn(".sort(", source)

    def rule_stars_of_calls_stand_before_names(self, source, tree):
        for node in ast.walk(tree):
            if isinstance(node, ast.Call):
                for argument in node.args:
                    if isinstance(argument, ast.Starred):
                        self.assertIsInstance(argument.value, ast.Name, node.lineno)

    def rule_generators_are_passed_plain_things(self, source, tree):
        for node in ast.walk(tree):
            if isinstance(node, ast.Call) and isinstance(node.func, ast.Name) and node.func.id in ("walk_graphs", "follow"):
                for argument in node.args:
                    self.assertIsInstance(argument, (ast.Name, ast.Attribute), node.lineno)

    def test_names_of_properties_are_free_otherwise(self):
        trees = [ast.parse(path.read_text()) for path in FILES]
        parts = [part for tree in trees for _, part in class_parts(tree)]
        properties = {part.name for part in parts if is_property(part)}
        setters = {part.name for part in parts if any(ast.unparse(row).endswith(".setter") for row in part.decorator_list)}
        self.assertLessEqual(setters, properties)
        for part in parts:
            if part.name in properties:
                self.assertEqual(len(part.decorator_list), 1, part.name)
        for tree in trees:
            for node in ast.walk(tree):
                if isinstance(node, ast.Attribute) and isinstance(node.ctx, ast.Store):
                    self.assertNotIn(node.attr, properties)

    def test_no_name_is_a_method_and_an_attribute(self):
        trees = [ast.parse(path.read_text()) for path in FILES]
        methods = {part.name for tree in trees for _, part in class_parts(tree)}
        for tree in trees:
            for node in ast.walk(tree):
                if isinstance(node, ast.Attribute) and isinstance(node.ctx, ast.Store):
                    self.assertNotIn(node.attr, methods)

    def rule_sets_stand_only_where_their_order_cannot_matter(self, source, tree):
        fine = set()
        for node in ast.walk(tree):
            if isinstance(node, ast.Call) and isinstance(node.func, ast.Name) and node.func.id in ("len", "sorted"):
                fine.update(id(part) for part in node.args)
            if isinstance(node, ast.Compare):
                fine.update(id(part) for part in node.comparators)
        for node in ast.walk(tree):
            is_call = isinstance(node, ast.Call) and isinstance(node.func, ast.Name) and node.func.id == "set"
            if is_call or isinstance(node, ast.Set):
                self.assertIn(id(node), fine, node.lineno)

    def rule_keywords_of_builtins(self, source, tree):
        allowed = {"sorted": ("key", "reverse"), "min": ("key", "default"), "max": ("key", "default"),
                   "sum": ("start",), "enumerate": ("start",), "zip": ("strict",)}
        for node in ast.walk(tree):
            if isinstance(node, ast.Call) and isinstance(node.func, ast.Name) and node.func.id in BUILTINS:
                for keyword in node.keywords:
                    self.assertIn(keyword.arg, allowed.get(node.func.id, ()))


if __name__ == "__main__":
    unittest.main()
