"""The rules of the language that can be seen file by file."""

import ast
import builtins
import os
import re
import unittest

PACKAGE = os.path.join(os.path.dirname(os.path.dirname(os.path.abspath(__file__))), "movedfolders")

BUILTINS = """
    len range enumerate zip min max sum abs sorted reversed int str bool list tuple dict set frozenset isinstance ord
    repr any all divmod pow iter next getattr hasattr setattr Exception ValueError TypeError KeyError IndexError
    LookupError ZeroDivisionError ArithmeticError OverflowError RuntimeError NotImplementedError AttributeError
    StopIteration NotImplemented
""".split()

LIBRARY = ("heapq", "math", "itertools", "collections")

WORDS = """
    type typing typing_extensions enum Enum IntEnum StrEnum Flag IntFlag Generic Protocol ABC ABCMeta namedtuple
    NamedTuple TypedDict TYPE_CHECKING abstractmethod register mro elements open input law version_info
""".split()


def sources():
    """Return (name of the file, its text, its tree) for each file of the package."""
    found = []
    for name in sorted(os.listdir(PACKAGE)):
        path = os.path.join(PACKAGE, name)
        if name == "__pycache__":
            continue
        with open(path, encoding="utf-8") as file:
            text = file.read()
        found.append((name, text, ast.parse(text)))
    return found


def bound_names(tree):
    """Return every name that is bound at module level, as often as it is bound."""
    found = []
    for node in tree.body:
        if isinstance(node, ast.ImportFrom):
            found += [alias.asname or alias.name for alias in node.names]
        elif isinstance(node, (ast.FunctionDef, ast.ClassDef)):
            found.append(node.name)
        elif isinstance(node, ast.Assign):
            found += [target.id for target in node.targets]
    return found


def own_names(tree):
    """Return every name of a parameter or a local variable."""
    names = [node.arg for node in ast.walk(tree) if isinstance(node, ast.arg)]
    kinds = (ast.Store, ast.Del)
    return names + [n.id for n in ast.walk(tree) if isinstance(n, ast.Name) and isinstance(n.ctx, kinds)]


def parents_of(tree):
    return {child: node for node in ast.walk(tree) for child in ast.iter_child_nodes(node)}


def is_iterator_call(node):
    """Tell whether a node calls what must be iterated at once."""
    if not isinstance(node, ast.Call):
        return False
    if isinstance(node.func, ast.Name):
        return node.func.id in ("range", "zip", "enumerate", "reversed")
    return isinstance(node.func, ast.Attribute) and node.func.attr in ("items", "keys", "values")


class Language(unittest.TestCase):

    def setUp(self):
        self.files = sources()

    def test_files(self):
        for name, text, _ in self.files:
            self.assertRegex(name, r"^(__init__|[a-z][a-z0-9_]*)\.py$")
            self.assertRegex(text, r"^[ -~\n]*$", name)
            self.assertLessEqual(text.count("\n"), 399, name)
            self.assertLessEqual(max(map(len, text.split("\n"))), 120, name)

    def test_functions_have_at_most_forty_lines(self):
        for name, _, tree in self.files:
            for node in ast.walk(tree):
                if isinstance(node, ast.FunctionDef):
                    self.assertLessEqual(node.end_lineno - node.lineno + 1, 40, (name, node.name))

    def test_module_level(self):
        plain = (ast.ImportFrom, ast.FunctionDef, ast.ClassDef, ast.Assign)
        for name, _, tree in self.files:
            rows = tree.body[1:] if ast.get_docstring(tree) else tree.body
            for node in rows:
                self.assertIsInstance(node, plain, (name, node.lineno))
            bound = bound_names(tree)
            self.assertEqual(len(bound), len(set(bound)), name)

    def test_imports_name_the_file_that_defines_the_name(self):
        trees = {"movedfolders." + name[:-3]: tree for name, _, tree in self.files}
        imports = {module: set() for module in trees}
        for module, tree in trees.items():
            for node in ast.walk(tree):
                self.assertNotIsInstance(node, ast.Import, module)
                if isinstance(node, ast.ImportFrom) and node.module not in LIBRARY:
                    defined = [n for n in trees[node.module].body if not isinstance(n, ast.ImportFrom)]
                    names = bound_names(ast.Module(defined, []))
                    for alias in node.names:
                        self.assertIn(alias.name, names, module)
                    imports[module].add(node.module)
        while imports:
            free = [module for module in imports if not imports[module] & set(imports)]
            self.assertTrue(free, "files that import from each other")
            imports = {module: imports[module] for module in imports if module not in free}

    def test_builtins(self):
        # Where a doctest ran before, Python keeps its last answer there as _.
        known = set(dir(builtins)) - {"_"}
        for name, _, tree in self.files:
            for node in ast.walk(tree):
                if isinstance(node, ast.Name) and node.id in known:
                    self.assertIn(node.id, BUILTINS, (name, node.lineno))
            self.assertEqual([n for n in bound_names(tree) + own_names(tree) if n in known], [], name)

    def test_local_names_are_no_imports_and_no_classes(self):
        for name, _, tree in self.files:
            taken = []
            for node in tree.body:
                if isinstance(node, (ast.ImportFrom, ast.ClassDef)):
                    taken += bound_names(ast.Module([node], []))
            self.assertEqual([n for n in own_names(tree) if n in taken], [], name)

    def test_nothing_that_the_language_lacks(self):
        lacking = (
            ast.Global, ast.AsyncFunctionDef, ast.Await, ast.AsyncFor, ast.AsyncWith, ast.Div, ast.MatMult,
        )
        for name, text, tree in self.files:
            for node in ast.walk(tree):
                self.assertNotIsInstance(node, lacking, (name, getattr(node, "lineno", 0)))
                if isinstance(node, ast.Constant):
                    self.assertNotIsInstance(node.value, (float, complex), name)
                if isinstance(node, ast.FunctionDef):
                    decorators = [ast.unparse(one) for one in node.decorator_list]
                    self.assertEqual(decorators, [], (name, node.name))
            code = re.sub(r'"""[^"]*"""|#[^\n]*', "", text)
            # A fault of the document has this word; as a name it is barred.
            code = code.replace('"open"', "")
            self.assertEqual([w for w in re.findall(r"[A-Za-z_][A-Za-z0-9_]*", code) if w in WORDS], [], name)

    def test_iterated_at_once(self):
        takers = ("list", "tuple", "dict", "sorted", "sum", "any", "all", "enumerate", "zip", "min", "max")
        for name, _, tree in self.files:
            parents = parents_of(tree)
            for node in ast.walk(tree):
                if not is_iterator_call(node):
                    continue
                above = parents[node]
                at = (name, node.lineno)
                if isinstance(above, ast.Assign):
                    # A range, and nothing else here, may be kept under a plain name.
                    self.assertEqual((node.func.id, above.targets[0].__class__), ("range", ast.Name), at)
                elif isinstance(above, (ast.For, ast.comprehension)):
                    self.assertIs(above.iter, node, at)
                elif isinstance(above, ast.Compare):
                    self.assertEqual(node.func.id, "range", at)
                    self.assertIsInstance(above.ops[0], (ast.In, ast.NotIn), at)
                else:
                    self.assertIsInstance(above, ast.Call, at)
                    allowed = takers + (("reversed",) if getattr(node.func, "id", "") == "range" else ())
                    self.assertIn(getattr(above.func, "id", None), allowed, at)

    def test_errors_are_own_ones_that_are_caught_by_name(self):
        own = bound_names(ast.Module([n for n in dict(self.trees())["errors.py"].body], []))
        for name, tree in self.trees():
            for node in ast.walk(tree):
                if isinstance(node, ast.ExceptHandler):
                    caught = node.type.elts if isinstance(node.type, ast.Tuple) else [node.type]
                    self.assertLessEqual({one.id for one in caught}, set(own), (name, node.lineno))
                if isinstance(node, ast.Raise):
                    self.assertIn(node.exc.func.id, own, (name, node.lineno))

    def trees(self):
        return [(name, tree) for name, _, tree in self.files]

    def test_is_stars_and_tables_of_functions(self):
        for name, tree in self.trees():
            tables = [n for n in bound_names(tree) if n.isupper() or n.strip("_").isupper()]
            for node in ast.walk(tree):
                at = (name, getattr(node, "lineno", 0))
                if isinstance(node, ast.Compare) and isinstance(node.ops[0], (ast.Is, ast.IsNot)):
                    self.assertIn(ast.unparse(node.comparators[0]), ("None", "True", "False"), at)
                if isinstance(node, ast.Call):
                    for one in node.args:
                        if isinstance(one, ast.Starred):
                            self.assertIsInstance(one.value, ast.Name, at)
                    # A function of a table gets a name first.
                    self.assertFalse(isinstance(node.func, ast.Subscript), at)
                if isinstance(node, ast.Assign) and isinstance(node.targets[0], ast.Name):
                    self.assertFalse(isinstance(node.value, ast.Name) and node.value.id in tables, at)

    def test_narrow_rules(self):
        for name, _, tree in self.files:
            for node in ast.walk(tree):
                at = (name, getattr(node, "lineno", 0))
                if isinstance(node, ast.BinOp) and isinstance(node.op, ast.Pow):
                    self.assertIn(getattr(node.right, "value", None), range(65), at)
                # Neither may stand beside what the document asks of a drive: its len, its in and its add.
                self.assertNotIsInstance(node, ast.GeneratorExp, at)
                if isinstance(node, ast.Attribute):
                    self.assertNotIn(node.attr, ("discard", "sort", "format", "format_map", "mro"), at)
                    if node.attr == "add":
                        self.assertEqual(node.value.id, "self", at)
                if isinstance(node, ast.Constant) and isinstance(node.value, str):
                    self.assertNotIn("%", node.value, at)


if __name__ == "__main__":
    unittest.main()
