"""The form of the package: those rules of ../shared/LANGUAGE.md that can be seen in a syntax tree."""

import ast
import builtins
import pathlib
import re
import unittest

PACKAGE = pathlib.Path(__file__).resolve().parent.parent / "outagain"
BUILTINS = set("""len range enumerate zip min max sum abs sorted reversed int str bool list tuple dict set
isinstance ord repr any all divmod iter property staticmethod classmethod ValueError TypeError KeyError
NotImplemented""".split())
METHODS = set("""append clear copy count endswith extend find get index insert isalnum isalpha isdigit islower
isspace isupper items join keys ljust lower lstrip partition pop remove replace reverse rfind rjust rpartition
rsplit rstrip setdefault split splitlines startswith strip update upper values zfill bit_length""".split())
LIBRARY = {"heapq": {"heappush", "heappop", "heapify", "heapreplace", "heappushpop"},
           "math": {"gcd", "lcm", "isqrt", "comb", "perm", "factorial"},
           "itertools": {"product", "combinations", "permutations", "chain", "accumulate", "pairwise",
                         "islice", "zip_longest"},
           "collections": {"defaultdict", "deque"}}
DUNDERS = set("""__init__ __eq__ __repr__ __str__ __len__ __enter__ __exit__ __call__ __iter__ __add__ __sub__
__lt__ __le__ __gt__ __ge__ __ne__ __contains__ __getitem__ __setitem__ __bool__ __slots__""".split())
BARRED_NAMES = set("""register mro elements open input law version_info with_traceback add_note attrgetter
breakpoint compile copyright credits delattr dir eval exec exit gc globals help id importlib license locals
methodcaller os quit vars format""".split())
BARRED_NODES = (ast.AsyncFor, ast.AsyncFunctionDef, ast.AsyncWith, ast.Await, ast.Div, ast.MatMult,
                ast.Import, ast.GeneratorExp, ast.TryStar)
TOP = (ast.Expr, ast.ImportFrom, ast.FunctionDef, ast.ClassDef, ast.Assign)


def trees():
    return {path: ast.parse(path.read_text(encoding="utf-8")) for path in sorted(PACKAGE.glob("*.py"))}


def nodes(tree, *kinds):
    return [node for node in ast.walk(tree) if isinstance(node, kinds)]


def bound_names(tree):
    """All names that a file gives to anything, attributes and keywords aside."""
    found = [node.name for node in nodes(tree, ast.FunctionDef, ast.ClassDef)]
    found += [node.arg for node in nodes(tree, ast.arg)]
    found += [node.id for node in nodes(tree, ast.Name) if not isinstance(node.ctx, ast.Load)]
    found += [node.name for node in nodes(tree, ast.ExceptHandler) if node.name]
    return found


class FormTest(unittest.TestCase):
    def each(self):
        return trees().items()

    def test_files(self):
        paths = [path for path in PACKAGE.rglob("*") if "__pycache__" not in path.parts]
        self.assertTrue(PACKAGE / "__init__.py" in paths and len(paths) <= 100)
        for path in paths:
            self.assertRegex(path.name, r"^[a-z][a-z0-9_]*\.py$|^__init__\.py$")

    def test_characters_and_size(self):
        for path, _ in self.each():
            text = path.read_bytes()
            self.assertTrue(all(32 <= sign < 127 or sign == 10 for sign in text))
            lines = text.decode("ascii").split("\n")
            self.assertLessEqual(len(lines), 400)
            self.assertLessEqual(max(map(len, lines)), 120)

    def test_functions_have_at_most_40_lines(self):
        for _, tree in self.each():
            for node in nodes(tree, ast.FunctionDef):
                self.assertLessEqual(node.end_lineno - node.lineno + 1, 40, node.name)

    def test_module_level(self):
        for _, tree in self.each():
            names = []
            for node in tree.body:
                self.assertIsInstance(node, TOP)
                if isinstance(node, ast.Expr):
                    self.assertIsInstance(node.value, ast.Constant)
                if isinstance(node, ast.Assign):
                    names += [target.id for target in node.targets]
                if isinstance(node, (ast.FunctionDef, ast.ClassDef)):
                    names.append(node.name)
                if isinstance(node, ast.ImportFrom):
                    names += [alias.name for alias in node.names]
            self.assertEqual(len(names), len(set(names)))

    def test_nodes(self):
        for _, tree in self.each():
            self.assertEqual([ast.dump(node) for node in nodes(tree, *BARRED_NODES)], [])
            for node in nodes(tree, ast.Constant):
                self.assertNotIsInstance(node.value, (float, complex))
                if isinstance(node.value, str):
                    self.assertNotIn("%", node.value)

    def test_decorators(self):
        for _, tree in self.each():
            for node in nodes(tree, ast.FunctionDef, ast.ClassDef):
                told = [ast.unparse(part) for part in node.decorator_list]
                self.assertTrue(set(told) <= {"property", "staticmethod", "classmethod"} and len(told) <= 1)

    def test_sets_are_not_stored(self):
        for _, tree in self.each():
            for node in nodes(tree, ast.Call):
                for part in node.args:
                    if isinstance(part, ast.SetComp):
                        self.assertIn(ast.unparse(node.func), ("sorted", "len"))
            for node in nodes(tree, ast.For, ast.comprehension):
                self.assertNotIsInstance(node.iter, (ast.Set, ast.SetComp))

    def test_imports_come_from_the_file_that_defines_the_name(self):
        defined = {path.stem: [node.name for node in tree.body if isinstance(node, (ast.FunctionDef, ast.ClassDef))]
                   + [target.id for node in tree.body if isinstance(node, ast.Assign) for target in node.targets]
                   for path, tree in trees().items()}
        for _, tree in self.each():
            for node in nodes(tree, ast.ImportFrom):
                self.assertEqual(node.level, 0)
                told = {alias.name for alias in node.names}
                self.assertFalse([alias for alias in node.names if alias.asname])
                if node.module in LIBRARY:
                    self.assertLessEqual(told, LIBRARY[node.module])
                else:
                    package, name = node.module.split(".")
                    self.assertEqual(package, "outagain")
                    self.assertLessEqual(told, set(defined[name]))

    def test_every_import_is_used(self):
        for _, tree in self.each():
            used = {node.id for node in nodes(tree, ast.Name)}
            for node in nodes(tree, ast.ImportFrom):
                self.assertLessEqual({alias.name for alias in node.names}, used)

    def test_no_ring_of_imports(self):
        left = {path.stem: {node.module.split(".")[1] for node in nodes(tree, ast.ImportFrom)
                            if node.module.startswith("outagain.")} for path, tree in trees().items()}
        while left:
            free = [name for name in left if not left[name] & set(left)]
            self.assertTrue(free, left)
            for name in free:
                del left[name]

    def test_names(self):
        for _, tree in self.each():
            for name in bound_names(tree):
                self.assertTrue(re.fullmatch(r"_?[A-Za-z][A-Za-z0-9_]*|_", name) or name in DUNDERS, name)
                self.assertNotIn(name, BARRED_NAMES)
                self.assertFalse(hasattr(builtins, name) and name not in DUNDERS, name)
                self.assertNotRegex(name, r"^_(wall|pe_|dcw_|enum_|cm_|lay_|law_|stub_|sre)")

    def test_locals_do_not_hide_imports_and_classes(self):
        for _, tree in self.each():
            taken = {alias.name for node in nodes(tree, ast.ImportFrom) for alias in node.names}
            taken |= {node.name for node in nodes(tree, ast.ClassDef)}
            inside = [node.arg for node in nodes(tree, ast.arg)]
            inside += [node.id for node in nodes(tree, ast.Name) if not isinstance(node.ctx, ast.Load)]
            self.assertEqual(taken & set(inside), set())

    def test_only_allowed_builtins_are_read(self):
        for _, tree in self.each():
            own = set(bound_names(tree))
            own |= {alias.name for node in nodes(tree, ast.ImportFrom) for alias in node.names}
            for node in nodes(tree, ast.Name):
                self.assertTrue(node.id in own or node.id in BUILTINS, node.id)

    def test_only_allowed_methods_are_called(self):
        own = {node.name for tree in trees().values() for node in nodes(tree, ast.FunctionDef)}
        for _, tree in self.each():
            for node in nodes(tree, ast.Call):
                if isinstance(node.func, ast.Attribute):
                    self.assertTrue(node.func.attr in METHODS | own, node.func.attr)

    def test_attributes_that_are_read_are_assigned(self):
        known = set(METHODS)
        for tree in trees().values():
            known |= {node.attr for node in nodes(tree, ast.Attribute) if isinstance(node.ctx, ast.Store)}
            known |= {node.name for node in nodes(tree, ast.FunctionDef)}
            known |= {target.id for kind in nodes(tree, ast.ClassDef) for node in kind.body
                      if isinstance(node, ast.Assign) for target in node.targets}
        for _, tree in self.each():
            for node in nodes(tree, ast.Attribute):
                self.assertIn(node.attr, known)

    def test_caught_errors_are_own_ones_and_have_a_name_of_their_own(self):
        kinds = {node.name for node in nodes(trees()[PACKAGE / "errors.py"], ast.ClassDef)}
        for _, tree in self.each():
            for node in nodes(tree, ast.ExceptHandler):
                told = node.type.elts if isinstance(node.type, ast.Tuple) else [node.type]
                self.assertLessEqual({part.id for part in told}, kinds)
            for part in nodes(tree, ast.FunctionDef):
                names = [node.name for node in nodes(part, ast.ExceptHandler) if node.name]
                names += [node.id for node in nodes(part, ast.Name) if not isinstance(node.ctx, ast.Load)]
                caught = [node.name for node in nodes(part, ast.ExceptHandler) if node.name]
                self.assertEqual([name for name in caught if names.count(name) > 1], [])

    def test_errors_are_created_where_they_are_raised(self):
        kinds = {node.name for node in nodes(trees()[PACKAGE / "errors.py"], ast.ClassDef)}
        for _, tree in self.each():
            for node in nodes(tree, ast.Raise):
                self.assertIsInstance(node.exc, ast.Call)
                self.assertIn(node.exc.func.id, kinds)

    def test_properties_are_not_assigned(self):
        told = [node for tree in trees().values() for node in nodes(tree, ast.FunctionDef)]
        plain = {node.name for node in told if "property" not in map(ast.unparse, node.decorator_list)}
        properties = {node.name for node in told} - plain
        self.assertLessEqual({"size", "places"}, properties)
        for _, tree in self.each():
            stored = {node.attr for node in nodes(tree, ast.Attribute) if not isinstance(node.ctx, ast.Load)}
            self.assertEqual(stored & properties, set())

    def test_no_attribute_has_the_name_of_a_method(self):
        methods = {node.name for tree in trees().values() for kind in nodes(tree, ast.ClassDef)
                   for node in kind.body if isinstance(node, ast.FunctionDef)}
        for _, tree in self.each():
            stored = {node.attr for node in nodes(tree, ast.Attribute) if not isinstance(node.ctx, ast.Load)}
            self.assertEqual(stored & methods, set())


if __name__ == "__main__":
    unittest.main()
