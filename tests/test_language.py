"""Those rules of the language subset that can be looked up mechanically, for each file of the package."""

import ast
import pathlib
import re
import unittest

PACKAGE = pathlib.Path(__file__).resolve().parent.parent / "bestcodes"
LIBRARY = {"heapq", "math", "itertools", "collections"}
BUILTINS = set("""len range enumerate zip min max sum abs sorted reversed int str bool list tuple dict set isinstance
ord repr any all divmod pow iter next map super""".split())
NODES = (ast.Global, ast.AsyncFunctionDef, ast.Await, ast.AsyncFor, ast.AsyncWith, ast.Import, ast.Div)
METHODS = {"__init__", "__eq__", "__repr__", "__str__", "__len__"}
DECORATORS = {"property", "classmethod", "staticmethod"}
BARRED = {"register", "mro", "elements", "open", "input", "law", "type", "eval", "exec", "id", "hash", "vars", "dir",
          "globals", "locals", "help", "format", "frozenset", "bytes", "chr", "print", "float"}
INTERFACE = {
    "errors.py": "CodeError BadCode BadValue BadText TooMany Unlike NotKept NothingLeft Busy",
    "codes.py": "Code",
    "making.py": "table runs pairs packed distinct summed times translated",
    "shapes.py": "Shape every rising changes both without",
    "joint.py": "Joint",
    "pairwise.py": "Most Rises longer is_rises apart",
    "several.py": "Never Grows best is_best bound loss as_good needless least_lots",
    "rates.py": "Rate rate is_rate",
    "desks.py": "Desk",
}
LISTED = {
    "Code": "__init__ __eq__ __len__ __str__ length far read",
    "Shape": "__init__ __eq__ __len__ __str__ has read",
    "Joint": "__init__ chains",
    "Most": "__init__",
    "Rises": "__init__",
    "Never": "__init__",
    "Grows": "__init__",
    "Rate": "__init__",
    "Desk": "__init__ put drop shape_to keep free undo redo tried",
}
LIBRARY_NAMES = {"math": {"gcd", "lcm", "isqrt", "comb", "perm", "factorial"}}


def sources():
    return [(path, path.read_text(encoding="ascii")) for path in sorted(PACKAGE.rglob("*.py"))]


def nodes():
    for path, text in sources():
        for node in ast.walk(ast.parse(text)):
            yield path.name, node


class Language(unittest.TestCase):

    def test_files(self):
        for path in PACKAGE.rglob("*"):
            if "__pycache__" not in path.parts:
                self.assertRegex(path.name, r"^[a-z_0-9]+\.py$")
        self.assertTrue((PACKAGE / "__init__.py").exists())

    def test_sizes_and_characters(self):
        for path, text in sources():
            lines = text.split("\n")
            self.assertLess(len(lines) - 1, 400, path)
            self.assertLessEqual(max(map(len, lines)), 120, path)
            self.assertIsNone(re.search(r"[^ -~\n]", text), path)
            self.assertNotIn("%", text.replace(" % ", ""), path)

    def test_functions(self):
        for name, node in nodes():
            if isinstance(node, ast.FunctionDef):
                self.assertLessEqual(node.end_lineno - node.lineno + 1, 40, (name, node.name))
                for decorator in node.decorator_list:
                    told = decorator.id if isinstance(decorator, ast.Name) else decorator.attr
                    self.assertIn(told, DECORATORS | {"setter"}, (name, node.name))
                if node.name.startswith("__"):
                    self.assertIn(node.name, METHODS, name)

    def test_nodes(self):
        for name, node in nodes():
            self.assertNotIsInstance(node, NODES, (name, getattr(node, "lineno", None)))
            if isinstance(node, ast.Constant):
                self.assertNotIsInstance(node.value, float, name)

    def test_imports(self):
        for name, node in nodes():
            if isinstance(node, ast.ImportFrom):
                self.assertEqual(node.level, 0, name)
                top, rest = (node.module + ".").split(".", 1)
                self.assertTrue(top in LIBRARY or top == "bestcodes" and rest, (name, node.module))
                self.assertTrue(all(one.asname is None and one.name != "*" for one in node.names), name)

    def test_names(self):
        for name, node in nodes():
            told = getattr(node, "id", getattr(node, "arg", None))
            if isinstance(node, (ast.Name, ast.arg)):
                self.assertNotIn(told, BARRED, (name, node.lineno))
                if isinstance(getattr(node, "ctx", None), ast.Store) or isinstance(node, ast.arg):
                    self.assertNotIn(told, BUILTINS, (name, node.lineno))

    def test_names_of_imports_and_classes_mean_nothing_else(self):
        for path, text in sources():
            tree = ast.parse(text)
            taken = {one.name for node in tree.body if isinstance(node, ast.ImportFrom) for one in node.names}
            taken |= {node.name for node in tree.body if isinstance(node, ast.ClassDef)}
            for node in ast.walk(tree):
                if isinstance(node, ast.arg):
                    self.assertNotIn(node.arg, taken, path)
                if isinstance(node, ast.Name) and isinstance(node.ctx, ast.Store):
                    self.assertNotIn(node.id, taken, path)

    def test_no_two_files_import_from_each_other(self):
        ways = {path.stem: set() for path, _ in sources()}
        for path, text in sources():
            for node in ast.parse(text).body:
                if isinstance(node, ast.ImportFrom) and node.module.startswith("bestcodes."):
                    ways[path.stem].add(node.module.split(".")[1])
        while ways:
            # some file imports from none that is left
            last = [name for name, others in ways.items() if not others & set(ways)]
            self.assertNotEqual(last, [], ways)
            for name in last:
                del ways[name]

    def test_names_of_the_library_are_only_called(self):
        for path, text in sources():
            tree = ast.parse(text)
            taken = set()
            for node in tree.body:
                if isinstance(node, ast.ImportFrom) and not node.module.startswith("bestcodes."):
                    self.assertLessEqual({one.name for one in node.names}, LIBRARY_NAMES.get(node.module, set()), path)
                    taken |= {one.name for one in node.names}
            called = [node.func for node in ast.walk(tree) if isinstance(node, ast.Call) and not node.keywords]
            for node in ast.walk(tree):
                if isinstance(node, ast.Name) and node.id in taken:
                    self.assertTrue(any(node is one for one in called), (path, node.lineno))

    def test_stars_in_calls_stand_before_names(self):
        for name, node in nodes():
            if isinstance(node, ast.Call):
                for one in node.args:
                    if isinstance(one, ast.Starred):
                        self.assertIsInstance(one.value, (ast.Name, ast.Attribute), (name, node.lineno))

    def test_finally_only_assigns(self):
        for name, node in nodes():
            if isinstance(node, ast.Try):
                for one in node.finalbody:
                    self.assertIsInstance(one, ast.Assign, name)
                    for part in ast.walk(one):
                        kinds = (ast.Assign, ast.Tuple, ast.Name, ast.Attribute, ast.Load, ast.Store)
                        self.assertIsInstance(part, kinds, name)

    def test_handlers_name_own_errors(self):
        own = set(INTERFACE["errors.py"].split())
        for name, node in nodes():
            if isinstance(node, ast.ExceptHandler):
                self.assertIn(node.type.id, own | {"KeyError"}, name)

    def test_what_is_read_is_assigned(self):
        # each attribute that is read is a method, or some class assigns it
        known = {"append", "extend", "pop", "find", "get", "index", "values", "split", "join", "isascii", "isdigit",
                 "zfill", "items", "bit_length", "add"}
        for _, node in nodes():
            if isinstance(node, ast.FunctionDef):
                known.add(node.name)
            if isinstance(node, ast.Attribute) and isinstance(node.ctx, ast.Store):
                known.add(node.attr)
        for name, node in nodes():
            if isinstance(node, ast.Attribute):
                self.assertIn(node.attr, known, (name, node.lineno))

    def test_no_name_is_a_method_and_an_attribute(self):
        methods, attributes = set(), set()
        for _, node in nodes():
            if isinstance(node, ast.ClassDef):
                methods |= {one.name for one in node.body if isinstance(one, ast.FunctionDef)}
            if isinstance(node, ast.Attribute) and isinstance(node.ctx, ast.Store):
                attributes.add(node.attr)
        self.assertEqual(methods & attributes, set())

    def test_any_and_their_like_take_lists(self):
        for name, node in nodes():
            self.assertNotIsInstance(node, ast.GeneratorExp, (name, getattr(node, "lineno", None)))

    def test_module_level(self):
        for path, text in sources():
            for node in ast.parse(text).body:
                kinds = (ast.Expr, ast.ImportFrom, ast.FunctionDef, ast.ClassDef, ast.Assign)
                self.assertIsInstance(node, kinds, path)

    def test_the_interface_stands_where_it_is_listed(self):
        for name, told in INTERFACE.items():
            body = ast.parse((PACKAGE / name).read_text()).body
            defined = {node.name: node for node in body if isinstance(node, (ast.FunctionDef, ast.ClassDef))}
            for one in told.split():
                self.assertIn(one, defined, name)
                if one in LISTED:
                    own = {node.name for node in defined[one].body if isinstance(node, ast.FunctionDef)}
                    self.assertLessEqual(set(LISTED[one].split()), own)


if __name__ == "__main__":
    unittest.main()
