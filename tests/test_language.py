"""The form of the code: what of the rules L1 to L28 of LANGUAGE.md can be seen from the rows alone."""

import ast
import builtins
import pathlib
import re
import unittest

PACKAGE = pathlib.Path(__file__).resolve().parent.parent / "overwise"
OWN_NAMES = set(
    "len range enumerate zip min max sum abs sorted reversed int str bool list tuple dict set frozenset isinstance ord"
    " repr any all divmod Exception ValueError TypeError KeyError IndexError LookupError ZeroDivisionError"
    " ArithmeticError OverflowError RuntimeError NotImplementedError AttributeError StopIteration".split()
)
METHODS = set(
    "append clear copy count endswith extend find get index insert isalnum isalpha isdigit islower isspace isupper items"
    " join keys ljust lower lstrip partition pop remove replace reverse rfind rjust rpartition rsplit rstrip setdefault"
    " split splitlines startswith strip update upper values zfill bit_length".split()
)
NODES = set(
    "Module FunctionDef ClassDef arguments arg Expr Assign AugAssign If While For Return Break Continue Pass Raise Try"
    " ExceptHandler ImportFrom alias Name Load Store Constant List Tuple Dict BinOp UnaryOp BoolOp Compare IfExp Call"
    " Attribute Subscript Slice ListComp comprehension JoinedStr FormattedValue Lambda keyword Add Sub Mult FloorDiv Mod"
    " Pow BitAnd BitOr BitXor LShift RShift Invert Not USub UAdd And Or Eq NotEq Lt LtE Gt GtE Is IsNot In NotIn".split()
)
NO_WORDS = (
    "type typing typing_extensions enum Enum IntEnum StrEnum Flag IntFlag Generic Protocol ABC ABCMeta namedtuple"
    " NamedTuple TypedDict TYPE_CHECKING abstractmethod"
).split()
NO_NAMES = set(
    "register mro elements open input version_info with_traceback add_note attrgetter breakpoint builtins compile"
    " copyright credits delattr dir eval exec exit gc getattr globals hasattr help id importlib license locals"
    " methodcaller os quit setattr super type vars sys format format_map args encode".split()
)
UNDERSCORED = set("__init__ __eq__ __repr__ __str__ __len__ __all__ __version__".split())


def files():
    return sorted(PACKAGE.glob("*.py"))


def tree_of(file):
    return ast.parse(file.read_text(encoding="utf-8"))


def named(tree, kind):
    return [node for node in ast.walk(tree) if isinstance(node, kind)]


def package_classes():
    return [node for file in files() for node in tree_of(file).body if isinstance(node, ast.ClassDef)]


class Rules(unittest.TestCase):
    def each(self):
        return [(file, file.read_text(encoding="utf-8"), tree_of(file)) for file in files()]

    def test_files_and_signs(self):
        for thing in PACKAGE.iterdir():
            if thing.name != "__pycache__":
                self.assertRegex(thing.name, r"\A[a-z_][a-z0-9_]*\.py\Z")
                self.assertNotIn(thing.stem, dir(builtins))
        self.assertTrue((PACKAGE / "__init__.py").is_file())
        for file, text, tree in self.each():
            self.assertRegex(text, r"\A[ -~\n]*\Z")

    def test_sizes(self):
        for file, text, tree in self.each():
            lines = text.splitlines()
            self.assertLessEqual(len(lines), 400)
            self.assertLessEqual(max(map(len, lines)), 120)
            for node in named(tree, ast.FunctionDef):
                self.assertLessEqual(node.end_lineno - node.lineno + 1, 40, node.name)

    def test_nodes(self):
        for file, text, tree in self.each():
            for node in ast.walk(tree):
                self.assertIn(type(node).__name__, NODES, getattr(node, "lineno", None))

    def test_top_of_a_file(self):
        for file, text, tree in self.each():
            names = []
            for place, node in enumerate(tree.body):
                if isinstance(node, ast.Expr):
                    self.assertEqual(place, 0)
                    self.assertIsInstance(node.value.value, str)
                elif isinstance(node, ast.Assign):
                    self.look_at_plain(node.value, True)
                    names.append(node.targets[0].id)
                elif isinstance(node, ast.ImportFrom):
                    names += [alias.name for alias in node.names]
                else:
                    self.assertIsInstance(node, (ast.FunctionDef, ast.ClassDef))
                    names.append(node.name)
            self.assertEqual(len(names), len(set(names)))
            if file.name == "__init__.py":
                self.assertFalse(set(names) & {other.stem for other in files()})

    def look_at_plain(self, node, outer):
        if isinstance(node, ast.Constant):
            self.assertIsInstance(node.value, (int, str, type(None)))
            return
        self.assertIsInstance(node, (ast.List, ast.Tuple, ast.Dict) if outer else ast.Tuple)
        things = node.keys + node.values if isinstance(node, ast.Dict) else node.elts
        for thing in things:
            self.look_at_plain(thing, False)

    def test_imports(self):
        drawn = {}
        for file, text, tree in self.each():
            drawn[file.stem] = []
            for node in named(tree, ast.ImportFrom):
                self.assertIn(node, tree.body)
                self.assertEqual(node.level, 0)
                self.assertTrue(node.module.startswith("overwise."))
                source = node.module.split(".")[1]
                drawn[file.stem].append(source)
                body = tree_of(PACKAGE / f"{source}.py").body
                defined = [one.name for one in body if isinstance(one, (ast.FunctionDef, ast.ClassDef))]
                defined += [one.targets[0].id for one in body if isinstance(one, ast.Assign)]
                for alias in node.names:
                    self.assertIsNone(alias.asname)
                    self.assertIn(alias.name, defined)
        done = set()
        while len(done) < len(drawn):
            ready = [name for name in drawn if name not in done and set(drawn[name]) <= done]
            self.assertTrue(ready, "files draw from one another")
            done |= set(ready)

    def test_words_that_stand_nowhere(self):
        for file, text, tree in self.each():
            for word in NO_WORDS:
                self.assertIsNone(re.search(rf"\b{word}\b", text), word)
            for word in ("dataclass", "overload", "contextmanager"):
                self.assertNotIn(word, text)
            for node in named(tree, ast.Constant):
                if isinstance(node.value, str):
                    self.assertNotIn("%", node.value)
                else:
                    self.assertIsInstance(node.value, (int, type(None)))

    def test_names(self):
        for file, text, tree in self.each():
            bound = self.bound_at_top(tree)
            inner = self.bound_within(tree)
            for name in inner | bound | self.attributes(tree):
                if name not in UNDERSCORED:
                    self.assertRegex(name, r"\A[A-Za-z][A-Za-z0-9_]*\Z")
                    self.assertNotIn(name, NO_NAMES)
            fixed = {node.name for node in tree.body if isinstance(node, ast.ClassDef)}
            fixed |= {alias.name for node in named(tree, ast.ImportFrom) for alias in node.names}
            self.assertFalse(inner & fixed)
            self.assertFalse((inner | bound) & set(dir(builtins)))
            for node in named(tree, ast.Name):
                if node.id not in inner | bound:
                    self.assertIn(node.id, OWN_NAMES, node.lineno)

    def bound_at_top(self, tree):
        names = {alias.name for node in named(tree, ast.ImportFrom) for alias in node.names}
        names |= {node.name for node in tree.body if isinstance(node, (ast.FunctionDef, ast.ClassDef))}
        return names | {node.targets[0].id for node in tree.body if isinstance(node, ast.Assign)}

    def bound_within(self, tree):
        top = [node.targets[0] for node in tree.body if isinstance(node, ast.Assign)]
        names = {node.id for node in named(tree, ast.Name) if isinstance(node.ctx, ast.Store) and node not in top}
        return names | {node.arg for node in named(tree, ast.arg)}

    def attributes(self, tree):
        return {node.attr for node in named(tree, ast.Attribute)}

    def test_methods(self):
        own = {node.name for one in package_classes() for node in one.body if isinstance(node, ast.FunctionDef)}
        for file, text, tree in self.each():
            called = [node.func for node in named(tree, ast.Call)]
            for node in named(tree, ast.Attribute):
                if node in called:
                    self.assertIn(node.attr, METHODS | own, node.lineno)
                else:
                    self.assertNotIn(node.attr, METHODS | own, node.lineno)

    def test_classes(self):
        methods, values = set(), set()
        for one in package_classes():
            self.assertLessEqual(len(one.bases), 1)
            names = [node.name for node in one.body if isinstance(node, ast.FunctionDef)]
            self.assertEqual(len(names), len(set(names)))
            methods |= set(names)
            for node in one.body:
                self.assertIsInstance(node, (ast.FunctionDef, ast.Expr))
            for node in named(one, ast.Attribute):
                if isinstance(node.ctx, ast.Store):
                    values.add(node.attr)
        self.assertFalse(methods & values)
        for file, text, tree in self.each():
            self.assertEqual(len(named(tree, ast.ClassDef)), len([n for n in tree.body if isinstance(n, ast.ClassDef)]))

    def test_classes_are_not_handed_on(self):
        classes = {one.name for one in package_classes()}
        for file, text, tree in self.each():
            allowed = []
            for node in ast.walk(tree):
                if isinstance(node, ast.Call):
                    allowed.append(node.func)
                    if isinstance(node.func, ast.Name) and node.func.id == "isinstance":
                        allowed += [node.args[1]] + getattr(node.args[1], "elts", [])
                elif isinstance(node, ast.ClassDef):
                    allowed += node.bases
                elif isinstance(node, ast.ExceptHandler):
                    allowed += [node.type] + getattr(node.type, "elts", [])
                elif isinstance(node, ast.Attribute) and node.attr == "__init__":
                    allowed.append(node.value)
            for node in named(tree, ast.Name):
                if node.id in classes:
                    self.assertIn(node, allowed, (node.id, node.lineno))

    def test_small_forms(self):
        for file, text, tree in self.each():
            for node in named(tree, ast.Assign):
                self.assertEqual(len(node.targets), 1)
            for node in named(tree, (ast.For, ast.While, ast.Try)):
                self.assertFalse(isinstance(node, (ast.For, ast.While)) and node.orelse)
                self.assertFalse(getattr(node, "finalbody", []))
            for node in named(tree, ast.FunctionDef):
                self.assertFalse(node.decorator_list or node.returns)
                self.assertFalse(node.args.vararg or node.args.kwarg or node.args.kwonlyargs or node.args.posonlyargs)
            lambdas = [(node.lineno, ast.dump(node.args)) for node in named(tree, ast.Lambda)]
            self.assertEqual(len(lambdas), len(set(lambdas)))
            for node in named(tree, ast.ListComp):
                self.assertEqual(len(node.generators), 1)
                self.assertLessEqual(len(node.generators[0].ifs), 1)
            for node in named(tree, ast.BinOp):
                if isinstance(node.op, ast.Pow):
                    self.assertIsInstance(node.right, ast.Constant)
                    self.assertTrue(0 <= node.right.value <= 64)
            for node in named(tree, ast.Compare):
                if any(isinstance(op, (ast.Is, ast.IsNot)) for op in node.ops):
                    self.assertTrue(any(isinstance(side, ast.Constant) for side in [node.left] + node.comparators))

    def test_walked_at_once(self):
        for file, text, tree in self.each():
            at_once = [node.iter for node in named(tree, (ast.For, ast.comprehension))]
            for node in named(tree, ast.Call):
                if isinstance(node.func, ast.Name) and node.func.id in (
                    "list", "tuple", "dict", "sorted", "sum", "any", "all", "enumerate", "zip", "min", "max", "len",
                ):
                    at_once += node.args[:1] if node.func.id != "zip" else node.args
            for node in named(tree, ast.Call):
                if isinstance(node.func, ast.Name) and node.func.id in ("zip", "enumerate", "reversed", "range", "set"):
                    self.assertIn(node, at_once, node.lineno)


if __name__ == "__main__":
    unittest.main()
