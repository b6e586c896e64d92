"""The package's form: those rules of shared/LANGUAGE.md that can be read off its files (L1 and on, in each name)."""

import ast
import builtins
import pathlib
import re
import unittest

PACKAGE = pathlib.Path(__file__).resolve().parent.parent / "everydraw"

STATEMENTS = (
    ast.Import, ast.ImportFrom, ast.FunctionDef, ast.ClassDef, ast.Assign, ast.AugAssign, ast.If, ast.While, ast.For,
    ast.Return, ast.Break, ast.Continue, ast.Pass, ast.Raise, ast.Try, ast.ExceptHandler, ast.Expr,
)
EXPRESSIONS = (
    ast.Constant, ast.List, ast.Tuple, ast.Dict, ast.Set, ast.BinOp, ast.UnaryOp, ast.BoolOp, ast.Compare, ast.IfExp,
    ast.Call, ast.Attribute, ast.Subscript, ast.Slice, ast.ListComp, ast.comprehension, ast.JoinedStr,
    ast.FormattedValue, ast.Lambda, ast.Name, ast.keyword,
)
PARTS = (
    ast.Module, ast.alias, ast.arguments, ast.arg, ast.expr_context, ast.boolop, ast.unaryop, ast.cmpop,
    ast.Add, ast.Sub, ast.Mult, ast.FloorDiv, ast.Mod, ast.Pow, ast.LShift, ast.RShift, ast.BitAnd, ast.BitOr,
    ast.BitXor,
)
BUILT_IN = set("""
    len range enumerate zip min max sum abs sorted reversed int str bool list tuple dict set frozenset isinstance ord
    repr any all divmod Exception ValueError TypeError KeyError IndexError LookupError ZeroDivisionError
    ArithmeticError OverflowError RuntimeError NotImplementedError AttributeError StopIteration
""".split())
UNDERSCORED = set("__init__ __eq__ __repr__ __str__ __len__ __all__ __version__ __name__".split())
METHODS = set("""
    append clear copy count endswith extend find get index insert isalnum isalpha isdigit islower isspace isupper items
    join keys ljust lower lstrip partition pop remove replace reverse rfind rjust rpartition rsplit rstrip setdefault
    split splitlines startswith strip update upper values zfill bit_length
""".split())
WORDS_NOWHERE = set("""
    type typing typing_extensions enum Enum IntEnum StrEnum Flag IntFlag Generic Protocol ABC ABCMeta namedtuple
    NamedTuple TypedDict TYPE_CHECKING abstractmethod
""".split())
NAMES_NOWHERE = set("""
    register mro elements open input version_info with_traceback add_note attrgetter breakpoint builtins compile
    copyright credits delattr dir eval exec exit gc getattr globals hasattr help id importlib license locals
    methodcaller os quit setattr super vars sys chr format format_map
""".split())
FILES_NOWHERE = set("test tests testing site conftest sitecustomize usercustomize".split()) | WORDS_NOWHERE
WALKED = ("zip", "enumerate", "reversed", "range")
WALKED_METHODS = ("items", "keys", "values")
WALKERS = ("list", "tuple", "dict", "sorted", "sum", "any", "all", "enumerate", "zip", "min", "max")


def files():
    return sorted(PACKAGE.glob("*.py"))


def trees():
    return [(path.name, ast.parse(path.read_text(encoding="ascii"))) for path in files()]


def nodes():
    return [(name, node) for name, tree in trees() for node in ast.walk(tree)]


def bound_names(node):
    if isinstance(node, (ast.FunctionDef, ast.ClassDef)):
        return [node.name]
    if isinstance(node, ast.arg):
        return [node.arg]
    if isinstance(node, ast.Name) and isinstance(node.ctx, ast.Store):
        return [node.id]
    if isinstance(node, ast.ExceptHandler) and node.name is not None:
        return [node.name]
    return []


def own_methods():
    return {
        part.name
        for _, node in nodes() if isinstance(node, ast.ClassDef)
        for part in node.body if isinstance(part, ast.FunctionDef)
    }


def imports_of(tree):
    return [part for part in tree.body if isinstance(part, ast.ImportFrom) and part.module != "__future__"]


class Form(unittest.TestCase):
    def none_of(self, found):
        self.assertEqual(found, [])

    def where(self, rule):
        return [(name, getattr(node, "lineno", 0)) for name, node in nodes() if rule(node)]

    def test_l1_l14_files(self):
        held = [path.name for path in PACKAGE.iterdir() if path.name != "__pycache__"]
        self.assertIn("__init__.py", held)
        for name in held:
            self.assertRegex(name, r"\A([a-z][a-z0-9_]*|__init__|__main__)\.py\Z")
            stem = name[:-3]
            self.assertFalse(stem in FILES_NOWHERE or stem.startswith("test_"), name)
            self.assertFalse(hasattr(builtins, stem) and not stem.startswith("__"), name)

    def test_l10_l14_size_and_signs(self):
        for path in files():
            text = path.read_bytes().decode("ascii")
            lines = text.split("\n")
            self.assertLessEqual(len(lines), 401, path.name)
            for number, line in enumerate(lines, start=1):
                self.assertLessEqual(len(line), 120, (path.name, number))
                self.assertRegex(line, r"\A[ -~]*\Z", (path.name, number))
        self.none_of(self.where(lambda node: isinstance(node, ast.FunctionDef) and node.end_lineno - node.lineno >= 40))

    def test_l17_words(self):
        for path in files():
            text = path.read_text(encoding="ascii")
            self.none_of([(path.name, word) for word in re.findall(r"\w+", text) if word in WORDS_NOWHERE])
            self.assertNotRegex(text, "dataclass|overload|contextmanager", path.name)

    def test_l2_l16_imports(self):
        drawn = {}
        held = {name: [bound for part in tree.body for bound in self.top_names(part)] for name, tree in trees()}
        for name, tree in trees():
            self.none_of([part.lineno for part in ast.walk(tree) if isinstance(part, ast.Import)])
            drawn[name] = []
            for part in imports_of(tree):
                self.assertRegex(part.module, r"\Aeverydraw\.[a-z][a-z0-9_]*\Z", name)
                source = part.module.split(".")[1] + ".py"
                drawn[name].append(source)
                for alias in part.names:
                    self.assertIn(alias.name, held[source], name)
        while drawn:
            free = [name for name in drawn if not any(source in drawn for source in drawn[name])]
            self.assertTrue(free, "files that draw from one another: " + ", ".join(drawn))
            for name in free:
                drawn.pop(name)

    def top_names(self, part):
        if isinstance(part, ast.Assign):
            return [part.targets[0].id]
        return [part.name] if isinstance(part, (ast.FunctionDef, ast.ClassDef)) else []

    def test_l3_l15_the_top_of_a_file(self):
        for name, tree in trees():
            self.assertIsNotNone(ast.get_docstring(tree), name)
            allowed = (ast.ImportFrom, ast.FunctionDef, ast.ClassDef, ast.Assign)
            self.none_of([(name, part.lineno) for part in tree.body[1:] if not isinstance(part, allowed)])
            bound = [one for part in tree.body for one in self.top_names(part)]
            self.assertEqual(len(bound), len(set(bound)), name)

    def test_l3_names_of_a_file_s_top_have_plain_values(self):
        for name, tree in trees():
            above = set()
            for part in tree.body:
                if isinstance(part, ast.FunctionDef):
                    above.add(part.name)
                if isinstance(part, ast.Assign):
                    self.assertIsInstance(part.targets[0], ast.Name, name)
                    for node in ast.walk(part.value):
                        if isinstance(node, ast.Name):
                            self.assertIn(node.id, above, (name, node.lineno))
                        else:
                            plain = (ast.Constant, ast.List, ast.Tuple, ast.Dict, ast.expr_context)
                            self.assertIsInstance(node, plain, (name, part.lineno))

    def test_l6_l7_statements_and_values(self):
        self.none_of(self.where(lambda node: not isinstance(node, STATEMENTS + EXPRESSIONS + PARTS)))
        self.none_of(self.where(lambda node: isinstance(node, (ast.For, ast.While)) and node.orelse))
        self.none_of(self.where(lambda node: isinstance(node, ast.Assign) and len(node.targets) != 1))
        self.none_of(self.where(lambda node: isinstance(node, ast.Try) and node.finalbody))
        self.none_of(self.where(lambda node: isinstance(node, ast.ExceptHandler) and node.type is None))
        self.none_of(self.where(
            lambda node: isinstance(node, ast.ListComp)
            and (len(node.generators) != 1 or len(node.generators[0].ifs) > 1)
        ))
        self.none_of(self.where(
            lambda node: isinstance(node, ast.FormattedValue) and not (
                isinstance(node.value, ast.Name) and node.conversion in (-1, ord("r")) and node.format_spec is None
            )
        ))
        self.none_of(self.where(
            lambda node: isinstance(node, ast.Constant)
            and not (node.value is None or node.value.__class__ in (bool, int, str))
        ))
        # A text stands by itself at a file's top alone, so that each other statement does something.
        tops = [tree.body[0].lineno for _, tree in trees()]
        self.assertEqual(set(tops), {1})
        self.none_of(self.where(
            lambda node: isinstance(node, ast.Expr) and not isinstance(node.value, ast.Call) and node.lineno != 1
        ))

    def test_l4_l5_functions_and_classes(self):
        self.none_of(self.where(
            lambda node: isinstance(node, (ast.FunctionDef, ast.ClassDef)) and node.decorator_list
        ))
        self.none_of(self.where(
            lambda node: isinstance(node, ast.arguments)
            and (node.vararg or node.kwarg or node.kwonlyargs or node.posonlyargs)
        ))
        self.none_of(self.where(
            lambda node: isinstance(node, ast.ClassDef) and (
                len(node.bases) > 1 or node.keywords
                or not all(isinstance(part, (ast.FunctionDef, ast.Pass)) for part in node.body)
            )
        ))

    def test_l8_l12_l15_l17_names(self):
        for name, node in nodes():
            for bound in bound_names(node):
                self.assertRegex(bound, r"\A([A-Za-z][A-Za-z0-9_]*|__[a-z]+__)\Z", name)
                if bound.startswith("__"):
                    self.assertIn(bound, UNDERSCORED, name)
                else:
                    self.assertFalse(hasattr(builtins, bound), (name, bound))
            used = node.id if isinstance(node, ast.Name) else node.attr if isinstance(node, ast.Attribute) else ""
            self.assertNotIn(used, NAMES_NOWHERE, name)
            if isinstance(node, ast.Name) and hasattr(builtins, used):
                self.assertIn(used, BUILT_IN, name)

    def test_l15_no_local_is_called_like_an_import_or_a_class(self):
        for name, tree in trees():
            kept = [alias.name for part in imports_of(tree) for alias in part.names]
            kept += [part.name for part in tree.body if isinstance(part, ast.ClassDef)]
            for node in ast.walk(tree):
                if not isinstance(node, ast.ClassDef):
                    self.none_of([(name, bound) for bound in bound_names(node) if bound in kept])

    def test_l15_lists_and_dicts_of_a_file_s_top_are_only_read(self):
        for name, tree in trees():
            parents = {child: node for node in ast.walk(tree) for child in ast.iter_child_nodes(node)}
            tops = [part for part in tree.body if isinstance(part, ast.Assign)]
            for top in tops:
                held = [node for node in ast.walk(top.value) if isinstance(node, (ast.List, ast.Dict))]
                self.assertTrue(held in ([], [top.value]), (name, top.lineno))
            kept = [top.targets[0].id for top in tops if isinstance(top.value, (ast.List, ast.Dict))]
            for node in ast.walk(tree):
                if isinstance(node, ast.Name) and isinstance(node.ctx, ast.Load) and node.id in kept:
                    self.assertTrue(self.is_read(node, parents[node]), (name, node.lineno))

    def is_read(self, node, parent):
        if isinstance(parent, ast.Subscript):
            return parent.value is node and isinstance(parent.ctx, ast.Load)
        if isinstance(parent, ast.Compare):
            return all(isinstance(sign, (ast.In, ast.NotIn, ast.Eq, ast.NotEq)) for sign in parent.ops)
        if isinstance(parent, (ast.For, ast.comprehension)):
            return parent.iter is node
        if isinstance(parent, ast.Attribute):
            return parent.attr in ("get", "keys", "values", "items", "index", "count")
        return (isinstance(parent, ast.Call) and isinstance(parent.func, ast.Name)
                and parent.func.id in ("len", "list", "dict", "sorted"))

    def test_l18_classes_methods_and_values(self):
        stored = [node for _, node in nodes() if isinstance(node, ast.Attribute) and isinstance(node.ctx, ast.Store)]
        values = {node.attr for node in stored}
        self.assertEqual(values & own_methods(), set())
        for name, tree in trees():
            classes = {part.name for part in tree.body if isinstance(part, ast.ClassDef)}
            classes |= {alias.name for part in imports_of(tree) for alias in part.names if alias.name[0].isupper()
                        and not alias.name.isupper()}
            used = set()
            for node in ast.walk(tree):
                if isinstance(node, ast.Call):
                    used.add(node.func)
                    if isinstance(node.func, ast.Name) and node.func.id == "isinstance":
                        used |= set(ast.walk(node.args[1]))
                if isinstance(node, ast.Attribute) and node.attr == "__init__":
                    used.add(node.value)
                if isinstance(node, ast.ClassDef):
                    self.assertEqual(len({part.name for part in node.body if isinstance(part, ast.FunctionDef)}),
                                     len([part for part in node.body if isinstance(part, ast.FunctionDef)]), name)
                    used |= set(node.bases)
                if isinstance(node, ast.ExceptHandler):
                    used |= set(ast.walk(node.type))
            for node in ast.walk(tree):
                if isinstance(node, ast.Name) and node.id in classes:
                    self.assertIn(node, used, (name, node.lineno))

    def test_l22_l24_keywords_and_sets(self):
        allowed = {
            "sorted": ("key", "reverse"), "min": ("key", "default"), "max": ("key", "default"), "sum": ("start",),
            "enumerate": ("start",), "zip": ("strict",),
        }
        for name, node in nodes():
            self.assertNotIsInstance(node, ast.Set, name)
            if isinstance(node, ast.Call) and node.keywords and isinstance(node.func, ast.Name):
                if hasattr(builtins, node.func.id):
                    for keyword in node.keywords:
                        self.assertIn(keyword.arg, allowed.get(node.func.id, ()), (name, node.lineno))
            if isinstance(node, ast.Name):
                self.assertNotIn(node.id, ("set", "frozenset"), (name, node.lineno))

    def test_l20_is(self):
        self.none_of(self.where(
            lambda node: isinstance(node, ast.Compare)
            and any(isinstance(sign, (ast.Is, ast.IsNot)) for sign in node.ops)
            and not any(isinstance(side, ast.Constant) and side.value in (None, True, False)
                        for side in [node.left] + node.comparators)
        ))

    def test_l23_walked_at_once(self):
        for name, tree in trees():
            walked = []
            for node in ast.walk(tree):
                if isinstance(node, (ast.For, ast.comprehension)):
                    walked.append(node.iter)
                if isinstance(node, ast.Call) and node.args:
                    if isinstance(node.func, ast.Name) and node.func.id in WALKERS:
                        walked += node.args if node.func.id == "zip" else node.args[:1]
                    if isinstance(node.func, ast.Attribute) and node.func.attr == "join":
                        walked += node.args
            for node in ast.walk(tree):
                if isinstance(node, ast.Call) and node not in walked:
                    called = node.func.id if isinstance(node.func, ast.Name) else ""
                    method = node.func.attr if isinstance(node.func, ast.Attribute) else ""
                    self.assertFalse(called in WALKED or method in WALKED_METHODS, (name, node.lineno))

    def test_l25_methods(self):
        known = METHODS | own_methods()
        self.none_of(self.where(
            lambda node: isinstance(node, ast.Call) and isinstance(node.func, ast.Attribute)
            and node.func.attr not in known
        ))

    def test_l27_numbers_and_texts(self):
        self.none_of(self.where(
            lambda node: isinstance(node, ast.BinOp) and isinstance(node.op, ast.Pow) and not (
                isinstance(node.right, ast.Constant) and node.right.value in range(65)
            )
        ))
        self.none_of(self.where(
            lambda node: isinstance(node, ast.Constant) and isinstance(node.value, str) and "%" in node.value
        ))


if __name__ == "__main__":
    unittest.main()
