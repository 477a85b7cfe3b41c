"""The form of the package's files: the rules of the language document that a short check can see."""

import ast
import builtins
import pathlib
import unittest

PACKAGE = pathlib.Path(__file__).resolve().parent.parent / "unlikekeys"
BUILTINS = set(
    "len range enumerate zip min max sum abs sorted reversed int str bool list tuple dict set isinstance ord repr any "
    "all divmod map iter next Exception ValueError TypeError KeyError IndexError LookupError ZeroDivisionError "
    "ArithmeticError OverflowError RuntimeError NotImplementedError AttributeError StopIteration NotImplemented "
    "property staticmethod classmethod super object bytes".split())
METHODS = set(
    "append clear copy count endswith extend find get index insert isalnum isalpha isdigit islower isspace isupper items "
    "join keys ljust lower lstrip partition pop remove replace reverse rfind rjust rpartition rsplit rstrip setdefault "
    "split splitlines startswith strip update upper values zfill bit_length add discard".split())
SPECIAL = set("__init__ __eq__ __repr__ __str__ __len__ __enter__ __exit__ __call__ __iter__".split())
BARRED = set(
    "register mro elements open input law version_info with_traceback add_note breakpoint compile delattr dir eval exec "
    "exit getattr globals hasattr help id locals quit setattr type vars hash format print chr frozenset".split())
LIBRARY = {"heapq", "math", "itertools"}
NODES_BARRED = (ast.Global, ast.AsyncFunctionDef, ast.AsyncFor, ast.AsyncWith, ast.Await, ast.Div, ast.Import)
AT_ONCE = {"any", "all", "min", "max", "sum", "sorted"}


def package_files():
    return sorted(PACKAGE.glob("*.py"))


def trees():
    return [(path, ast.parse(path.read_text())) for path in package_files()]


def names_bound(tree):
    """Each name that a file gives to something, with its line."""
    for node in ast.walk(tree):
        if isinstance(node, ast.Name) and not isinstance(node.ctx, ast.Load):
            yield node.id, node.lineno
        elif isinstance(node, ast.arg):
            yield node.arg, node.lineno
        elif isinstance(node, (ast.FunctionDef, ast.ClassDef)):
            yield node.name, node.lineno
        elif isinstance(node, ast.ExceptHandler) and node.name:
            yield node.name, node.lineno


def own_methods():
    return {part.name for _, tree in trees() for node in ast.walk(tree) if isinstance(node, ast.ClassDef)
            for part in node.body if isinstance(part, ast.FunctionDef)}


def is_place(node):
    """A name, or an attribute of a place."""
    return isinstance(node, ast.Name) or (isinstance(node, ast.Attribute) and is_place(node.value))


def is_let_in_exit(test):
    """Whether an `if` of an `__exit__` may ask this, in a package with an `__eq__`."""
    if isinstance(test, ast.BoolOp):
        return all(is_let_in_exit(part) for part in test.values)
    if isinstance(test, ast.UnaryOp):
        return isinstance(test.op, ast.Not) and is_let_in_exit(test.operand)
    return (isinstance(test, ast.Compare) and is_place(test.left) and len(test.ops) == 1
            and isinstance(test.ops[0], (ast.Is, ast.IsNot))
            and isinstance(test.comparators[0], ast.Constant) and test.comparators[0].value is None)


def is_row_of_exit(node):
    """Whether an `__exit__` may have this row; of the values that L6 lets, those that the package needs."""
    if isinstance(node, ast.If):
        return is_let_in_exit(node.test) and all(is_row_of_exit(part) for part in node.body + node.orelse)
    if isinstance(node, ast.Assign):
        return (all(isinstance(target, ast.Attribute) and is_place(target) for target in node.targets)
                and (is_place(node.value) or isinstance(node.value, ast.Constant)))
    if isinstance(node, ast.Return):
        return node.value is None or ast.unparse(node.value) in ("None", "False")
    return isinstance(node, ast.Pass)


def reads_of_what_exit_is_told(function):
    """The lines at which it reads more of what it is handed than whether kind is None."""
    kind, *others = [part.arg for part in function.args.args[1:]]
    asked = [part.left for part in ast.walk(function) if isinstance(part, ast.Compare)]
    return [part.lineno for part in ast.walk(function) if isinstance(part, ast.Name)
            and (part.id in others or (part.id == kind and part not in asked))]


class Form(unittest.TestCase):
    def refuse(self, rule, path, line):
        self.fail(f"{rule}: {path.name}:{line}")

    def test_folder(self):
        for path in PACKAGE.iterdir():
            if path.name != "__pycache__":
                self.assertRegex(path.name, r"\A[a-z_]+\.py\Z")

    def test_characters_and_sizes(self):
        for path in package_files():
            lines = path.read_bytes().decode("utf-8").split("\n")
            self.assertLessEqual(len(lines) - 1, 399, path.name)
            for number, line in enumerate(lines, 1):
                if len(line) > 120 or any(not " " <= sign <= "~" for sign in line):
                    self.refuse("L10, L14", path, number)

    def test_functions_are_small(self):
        for path, tree in trees():
            for node in ast.walk(tree):
                if isinstance(node, ast.FunctionDef) and node.end_lineno - node.lineno + 1 > 40:
                    self.refuse("L10", path, node.lineno)

    def test_module_level(self):
        kinds = (ast.ImportFrom, ast.FunctionDef, ast.ClassDef, ast.Assign)
        for path, tree in trees():
            for place, node in enumerate(tree.body):
                if not isinstance(node, kinds) and not (place == 0 and isinstance(node, ast.Expr)):
                    self.refuse("L3", path, node.lineno)

    def test_imports(self):
        for path, tree in trees():
            for node in ast.walk(tree):
                if isinstance(node, ast.ImportFrom) and node.module not in LIBRARY:
                    self.check_import(path, node)

    def check_import(self, path, node):
        """An own import names the very file that defines the name (L16)."""
        self.assertEqual(node.level, 0)
        package, _, module = node.module.partition(".")
        if package != PACKAGE.name:
            self.refuse("L2", path, node.lineno)
        bound = {name for name, _ in names_bound(ast.parse((PACKAGE / f"{module}.py").read_text()))}
        for alias in node.names:
            if alias.name not in bound:
                self.refuse("L16", path, node.lineno)

    def test_no_two_files_import_each_other(self):
        needs = {path.stem: {node.module.partition(".")[2] for node in tree.body if isinstance(node, ast.ImportFrom)}
                 for path, tree in trees()}
        for start in needs:
            seen, left = set(), list(needs[start])
            while left:
                name = left.pop()
                if name not in seen:
                    seen.add(name)
                    left.extend(needs.get(name, ()))
            self.assertNotIn(start, seen)

    def test_names(self):
        for path, tree in trees():
            for name, line in names_bound(tree):
                if name not in SPECIAL and (name in BARRED or hasattr(builtins, name) or name.startswith("__")):
                    self.refuse("L8, L15, L17", path, line)

    def test_builtins(self):
        for path, tree in trees():
            for node in ast.walk(tree):
                if isinstance(node, ast.Name) and hasattr(builtins, node.id) and node.id not in BUILTINS:
                    self.refuse("L8", path, node.lineno)

    def test_methods(self):
        own = own_methods()
        for path, tree in trees():
            for node in ast.walk(tree):
                if isinstance(node, ast.Call) and isinstance(node.func, ast.Attribute):
                    if node.func.attr not in METHODS and node.func.attr not in own:
                        self.refuse("L25", path, node.lineno)

    def test_statements_and_values(self):
        for path, tree in trees():
            for node in ast.walk(tree):
                if isinstance(node, NODES_BARRED):
                    self.refuse("L6, L7", path, getattr(node, "lineno", 0))
                if isinstance(node, ast.Constant) and isinstance(node.value, (float, complex)):
                    self.refuse("L7", path, node.lineno)
                if isinstance(node, ast.Constant) and isinstance(node.value, str) and "%" in node.value:
                    self.refuse("L27", path, node.lineno)

    def test_lists_where_a_class_compares(self):
        for path, tree in trees():
            for node in ast.walk(tree):
                if isinstance(node, ast.Call) and isinstance(node.func, ast.Name) and node.func.id in AT_ONCE:
                    if any(isinstance(argument, ast.GeneratorExp) for argument in node.args):
                        self.refuse("L7", path, node.lineno)

    def test_decorators(self):
        for path, tree in trees():
            for node in ast.walk(tree):
                for sign in getattr(node, "decorator_list", ()):
                    words = ast.unparse(sign)
                    if words not in ("property", "staticmethod", "classmethod") and not words.endswith(".setter"):
                        self.refuse("L4", path, node.lineno)

    def test_no_name_hides_an_import_or_a_class(self):
        for path, tree in trees():
            above = {alias.name for node in tree.body if isinstance(node, ast.ImportFrom) for alias in node.names}
            classes = {node.name for node in tree.body if isinstance(node, ast.ClassDef)}
            functions = {node.name for node in tree.body if isinstance(node, ast.FunctionDef)}
            for name, line in names_bound(tree):
                if name in above or (name in functions and not self.is_bound_above(tree, name, line)):
                    self.refuse("L15", path, line)
            self.assertEqual(classes & above, set())

    def is_bound_above(self, tree, name, line):
        return any(isinstance(node, ast.FunctionDef) and (node.name, node.lineno) == (name, line) for node in tree.body)

    def test_methods_and_attributes_of_a_class(self):
        for path, tree in trees():
            for node in tree.body:
                if isinstance(node, ast.ClassDef):
                    methods = [part.name for part in node.body if isinstance(part, ast.FunctionDef)]
                    stored = {part.attr for part in ast.walk(node)
                              if isinstance(part, ast.Attribute) and isinstance(part.ctx, ast.Store)}
                    self.assertEqual(len(methods), len(set(methods)))
                    self.assertEqual(stored & set(methods), set(), path.name)

    def test_attributes_that_are_read_are_assigned(self):
        stored = {part.attr for _, tree in trees() for part in ast.walk(tree)
                  if isinstance(part, ast.Attribute) and isinstance(part.ctx, ast.Store)}
        known = stored | METHODS | own_methods() | SPECIAL
        for path, tree in trees():
            for part in ast.walk(tree):
                if isinstance(part, ast.Attribute) and part.attr not in known:
                    self.refuse("L18", path, part.lineno)

    def test_no_name_is_a_method_and_an_attribute(self):
        stored = {part.attr for _, tree in trees() for part in ast.walk(tree)
                  if isinstance(part, ast.Attribute) and isinstance(part.ctx, ast.Store)}
        self.assertEqual(stored & own_methods(), set())

    def test_what_an_exit_does(self):
        exits = [(path, node) for path, tree in trees() for node in ast.walk(tree)
                 if isinstance(node, ast.FunctionDef) and node.name == "__exit__"]
        self.assertEqual([path.name for path, _ in exits], ["trials.py"])
        for path, node in exits:
            for part in node.body:
                if not is_row_of_exit(part):
                    self.refuse("L6 With", path, part.lineno)
            for line in reads_of_what_exit_is_told(node):
                self.refuse("L6 With", path, line)

    def test_what_an_exit_may_ask(self):
        for text in ("kind is None", "self.block.kept is None", "not self.kept is None or kind is not None",
                     "self.a is None and (self.b is not None or not kind is None)"):
            self.assertTrue(is_let_in_exit(ast.parse(text, mode="eval").body), text)
        for text in ("self.block.kept", "not self.block.kept", "kind", "self.kept is True", "self.kept == None",
                     "self.many == 1", "self.many > 0", "self.a is self.b", "kind is not None or not self.block.kept",
                     "self.rows[0] is None", "self.told() is None", "None is kind", "self.a is None is None"):
            self.assertFalse(is_let_in_exit(ast.parse(text, mode="eval").body), text)

    def test_what_a_comparison_does(self):
        for path, tree in trees():
            for node in ast.walk(tree):
                if isinstance(node, ast.FunctionDef) and node.name == "__eq__":
                    self.assertEqual([type(part) for part in node.body], [ast.Return], path.name)

    def test_each_function_of_the_interface_stands_in_its_file(self):
        interface = {
            "worlds": ("World",), "schemes": ("is_schemes",), "runs": ("is_run", "played"),
            "cases": ("is_case", "is_within", "led"), "judging": ("judged", "comes"),
            "tables": ("shows_right", "shows_wrong", "shows_comes", "shows_never"),
            "barring": ("barred_stands", "barred"), "mending": ("chosen", "mended", "shows_mended"), "own": ("own",),
            "towns": ("Town",), "histories": ("is_history",),
            "orders": ("explained", "shows_order", "closed", "shows_closed"), "doubts": ("doubts", "sure"),
            "changes": ("planned", "shows_planned"),
            "showing": ("show_world", "show_schemes", "show_run", "show_history"),
            "reading": ("read_world", "read_schemes", "read_run", "read_history"), "desk": ("Desk",),
        }
        for file, names in interface.items():
            tree = ast.parse((PACKAGE / f"{file}.py").read_text())
            defined = {node.name for node in tree.body if isinstance(node, (ast.FunctionDef, ast.ClassDef))}
            self.assertEqual(set(names) - defined, set(), file)

    def test_each_method_of_the_interface_stands_in_its_class(self):
        interface = {
            ("worlds", "World"): "is_pattern is_stand holds made has_row is_broken __eq__",
            ("towns", "Town"): "begin step stay leave come lapse fall stand has_row doer letter history run back copy trial "
                               "tried __eq__",
            ("desk", "Desk"): "say",
        }
        for (file, name), methods in interface.items():
            tree = ast.parse((PACKAGE / f"{file}.py").read_text())
            defined = {part.name for node in tree.body if isinstance(node, ast.ClassDef) and node.name == name
                       for part in node.body if isinstance(part, ast.FunctionDef)}
            self.assertEqual(set(methods.split()) - defined, set(), name)
