"""The package keeps to the small part of Python that it is promised in.

Only what can be seen row by row is looked at here; the rules' numbers stand at each look.
"""

import ast
import builtins
import pathlib
import re
import unittest

import webstore

FOLDER = pathlib.Path(webstore.__file__).resolve().parent
FILES = sorted(FOLDER.glob("*.py"))

OWN_NAMES = set("""len range enumerate zip min max sum abs sorted reversed int str bool bytes list tuple dict set
    frozenset isinstance ord repr any all divmod Exception ValueError TypeError KeyError IndexError LookupError
    ZeroDivisionError ArithmeticError OverflowError RuntimeError NotImplementedError AttributeError
    StopIteration""".split())
OWN_METHODS = set("""append clear copy count endswith extend find get index insert isalnum isalpha isdigit islower
    isspace isupper items join keys ljust lower lstrip partition pop remove replace reverse rfind rjust rpartition
    rsplit rstrip setdefault split splitlines startswith strip update upper values zfill bit_length sort add
    discard""".split())
WORDS_OUT = set("""type typing typing_extensions enum Enum IntEnum StrEnum Flag IntFlag Generic Protocol ABC ABCMeta
    namedtuple NamedTuple TypedDict TYPE_CHECKING abstractmethod""".split())
NAMES_OUT = set("""register mro elements open input version_info with_traceback add_note attrgetter breakpoint
    builtins compile copyright credits delattr dir eval exec exit gc getattr globals hasattr help id importlib license
    locals methodcaller os quit setattr super vars sys format format_map args""".split())
NODES_OUT = (ast.With, ast.Match, ast.Global, ast.Nonlocal, ast.Yield, ast.YieldFrom, ast.AsyncFunctionDef,
             ast.AsyncFor, ast.AsyncWith, ast.Await, ast.GeneratorExp, ast.NamedExpr, ast.Div, ast.Import)
TWO_UNDERSCORES = ("__init__", "__eq__", "__repr__", "__str__", "__len__")
WALKED = ("zip", "enumerate", "reversed", "range")
WALKERS = ("list", "tuple", "dict", "sorted", "sum", "any", "all", "enumerate", "zip", "bytes", "min", "max")


def trees():
    """The files of the package, each with what Python reads in it."""
    return [(path, ast.parse(path.read_text("utf-8"))) for path in FILES]


def with_parents(tree):
    """All that stands in a tree, each with what it stands in."""
    return [(child, node) for node in ast.walk(tree) for child in ast.iter_child_nodes(node)]


def called(node, names):
    """Whether something is a call of one of these names."""
    return isinstance(node, ast.Call) and isinstance(node.func, ast.Name) and node.func.id in names


def drawn(tree):
    """The names that a file draws in."""
    return {name.name for row in tree.body if isinstance(row, ast.ImportFrom) for name in row.names}


def bound(tree):
    """The names that a file's top binds itself, as often as it does."""
    names = []
    for row in tree.body:
        if isinstance(row, (ast.FunctionDef, ast.ClassDef)):
            names.append(row.name)
        elif isinstance(row, ast.Assign):
            names += [target.id for target in row.targets]
    return names


class LanguageCase(unittest.TestCase):
    def sent_back(self, rule, path, node):
        self.fail(f"{rule}: {path.name}, row {getattr(node, 'lineno', '?')}")


class Files(LanguageCase):
    def test_names_of_files(self):
        for path in FOLDER.iterdir():
            if path.name != "__pycache__":
                self.assertRegex(path.name, r"^([a-z][a-z0-9_]*|__init__|__main__)\.py$")
                self.assertNotIn(path.stem, dir(builtins))

    def test_signs_and_sizes(self):
        for path in FILES:
            text = path.read_text("utf-8")
            self.assertRegex(text, r"\A[ -~\n]*\Z", path.name)
            rows = text.split("\n")
            self.assertLessEqual(len(rows), 400, path.name)
            self.assertLessEqual(max(map(len, rows)), 120, path.name)

    def test_words_that_stand_nowhere(self):
        for path in FILES:
            text = path.read_text("utf-8")
            self.assertFalse(WORDS_OUT & set(re.findall(r"\w+", text)), path.name)
            for part in ("dataclass", "overload", "contextmanager"):
                self.assertNotIn(part, text, path.name)

    def test_defs_are_small(self):
        for path, tree in trees():
            for node in ast.walk(tree):
                if isinstance(node, ast.FunctionDef) and node.end_lineno - node.lineno >= 40:
                    self.sent_back("L10", path, node)


class Tops(LanguageCase):
    def test_imports(self):
        homes = {path.stem: bound(tree) for path, tree in trees()}
        for path, tree in trees():
            for node in ast.walk(tree):
                if not isinstance(node, ast.ImportFrom):
                    continue
                package, _, home = node.module.partition(".")
                if node not in tree.body or node.level or package != "webstore" or home not in homes:
                    self.sent_back("L2", path, node)
                for name in node.names:
                    if name.name not in homes[home] or name.asname:
                        self.sent_back("L16", path, node)

    def test_no_two_files_draw_from_one_another(self):
        draws = {path.stem: {row.module.partition(".")[2] for row in tree.body if isinstance(row, ast.ImportFrom)}
                 for path, tree in trees()}
        while draws:
            free = [name for name, needs in draws.items() if not needs & set(draws)]
            self.assertTrue(free, sorted(draws))
            draws = {name: needs for name, needs in draws.items() if name not in free}

    def test_what_stands_at_the_top(self):
        for path, tree in trees():
            self.assertTrue(ast.get_docstring(tree), path.name)
            for row in tree.body[1:]:
                if not isinstance(row, (ast.ImportFrom, ast.FunctionDef, ast.ClassDef, ast.Assign)):
                    self.sent_back("L3", path, row)
                if isinstance(row, ast.Assign) and any(isinstance(node, (ast.Call, ast.Set, ast.comprehension))
                                                       for node in ast.walk(row.value)):
                    self.sent_back("L3", path, row)

    def test_each_name_once(self):
        for path, tree in trees():
            names = bound(tree) + sorted(drawn(tree))
            self.assertEqual(sorted(names), sorted(set(names)), path.name)


class Defs(LanguageCase):
    def test_parameters(self):
        for path, tree in trees():
            for node in ast.walk(tree):
                if isinstance(node, (ast.FunctionDef, ast.Lambda)):
                    if node.args.vararg or node.args.kwarg or node.args.posonlyargs:
                        self.sent_back("L4", path, node)
                if isinstance(node, (ast.FunctionDef, ast.ClassDef)) and node.decorator_list:
                    self.sent_back("L4", path, node)

    def test_classes(self):
        for path, tree in trees():
            for node in ast.walk(tree):
                if not isinstance(node, ast.ClassDef):
                    continue
                if len(node.bases) > 1 or node.keywords or node not in tree.body:
                    self.sent_back("L5", path, node)
                rows = node.body[1:] if ast.get_docstring(node) else node.body
                if not all(isinstance(row, ast.FunctionDef) for row in rows):
                    self.sent_back("L5", path, node)

    def test_methods_and_values_are_not_called_alike(self):
        methods, values = set(), set()
        for _, tree in trees():
            for node in ast.walk(tree):
                if isinstance(node, ast.ClassDef):
                    methods |= {row.name for row in node.body if isinstance(row, ast.FunctionDef)}
                if isinstance(node, ast.Attribute) and isinstance(node.ctx, ast.Store):
                    values.add(node.attr)
        self.assertFalse(methods & values)
        for path, tree in trees():
            for node, parent in with_parents(tree):
                if isinstance(node, ast.Attribute):
                    is_call = isinstance(parent, ast.Call) and parent.func is node
                    allowed = methods | OWN_METHODS if is_call else values
                    if node.attr not in allowed:
                        self.sent_back("L18, L25", path, node)


class Names(LanguageCase):
    def test_names(self):
        for path, tree in trees():
            for node in ast.walk(tree):
                for name in (getattr(node, "id", None), getattr(node, "attr", None), getattr(node, "arg", None),
                             getattr(node, "name", None)):
                    if not isinstance(name, str):
                        continue
                    if name in NAMES_OUT or (name.startswith("_") and name not in TWO_UNDERSCORES):
                        self.sent_back("L12, L17", path, node)

    def test_python_s_own_names(self):
        for path, tree in trees():
            classes = {row.name for row in tree.body if isinstance(row, ast.ClassDef)}
            taken = drawn(tree) | classes | set(dir(builtins))
            for node in ast.walk(tree):
                if isinstance(node, ast.Name) and isinstance(node.ctx, ast.Load):
                    if node.id in dir(builtins) and node.id not in OWN_NAMES:
                        self.sent_back("L8", path, node)
                if isinstance(node, ast.Name) and isinstance(node.ctx, ast.Store) and node.id in taken:
                    self.sent_back("L15", path, node)
                if isinstance(node, ast.arg) and node.arg in taken:
                    self.sent_back("L15", path, node)


class Rows(LanguageCase):
    def test_what_is_out(self):
        for path, tree in trees():
            for node, parent in with_parents(tree):
                if isinstance(node, NODES_OUT):
                    self.sent_back("L6, L7", path, parent)
                if isinstance(node, (ast.For, ast.While)) and node.orelse:
                    self.sent_back("L6", path, node)
                if isinstance(node, ast.Constant) and isinstance(node.value, (float, complex)):
                    self.sent_back("L7", path, node)
                if isinstance(node, ast.FormattedValue) and node.format_spec:
                    self.sent_back("L7", path, node)
                if isinstance(node, ast.Starred) and not isinstance(node.ctx, ast.Store):
                    self.sent_back("L7", path, node)
                if isinstance(node, ast.BinOp) and isinstance(node.op, ast.Pow):
                    self.sent_back("L27", path, node)

    def test_is_stands_beside_none_true_and_false(self):
        for path, tree in trees():
            for node in ast.walk(tree):
                if isinstance(node, ast.Compare) and any(isinstance(sign, (ast.Is, ast.IsNot)) for sign in node.ops):
                    last = node.comparators[-1]
                    if len(node.ops) > 1 or not isinstance(last, ast.Constant) or last.value not in (None, True, False):
                        self.sent_back("L20", path, node)

    def test_texts(self):
        for path, tree in trees():
            for node in ast.walk(tree):
                if isinstance(node, ast.Constant) and isinstance(node.value, str):
                    if "%" in node.value:
                        self.sent_back("L27", path, node)

    def test_walked_at_once(self):
        for path, tree in trees():
            for node, parent in with_parents(tree):
                walked = called(node, WALKED) or (isinstance(node, ast.Call) and isinstance(node.func, ast.Attribute)
                                                  and node.func.attr in ("items", "keys", "values"))
                loop = isinstance(parent, (ast.For, ast.comprehension)) and parent.iter is node
                if walked and not loop and not called(parent, WALKERS):
                    self.sent_back("L23", path, node)

    def test_sets(self):
        for path, tree in trees():
            kept = {(def_.name, row.targets[0].id) for def_ in ast.walk(tree) if isinstance(def_, ast.FunctionDef)
                    for row in ast.walk(def_) if isinstance(row, ast.Assign) and is_set(row.value)}
            for node, parent in with_parents(tree):
                if is_set(node) and not set_may_stand(node, parent):
                    self.sent_back("L24", path, node)
            for def_ in ast.walk(tree):
                if isinstance(def_, ast.FunctionDef):
                    self.look_at_kept(path, def_, {name for home, name in kept if home == def_.name})

    def look_at_kept(self, path, def_, names):
        """A set that is kept is added to, asked and sorted alone."""
        for node, parent in with_parents(def_):
            if not isinstance(node, ast.Name) or node.id not in names or isinstance(node.ctx, ast.Store):
                continue
            asked = isinstance(parent, ast.Compare) and isinstance(parent.ops[0], (ast.In, ast.NotIn, ast.Eq, ast.NotEq))
            grown = isinstance(parent, ast.Attribute) and parent.attr in ("add", "discard")
            if not (asked or grown or called(parent, ("len", "sorted")) or isinstance(parent, (ast.If, ast.While))):
                self.sent_back("L24", path, node)


def is_set(node):
    return isinstance(node, (ast.Set, ast.SetComp)) or called(node, ("set",))


def set_may_stand(node, parent):
    if isinstance(parent, ast.Compare):
        return parent.left is not node or isinstance(parent.ops[0], (ast.Eq, ast.NotEq))
    if isinstance(parent, ast.BinOp):
        return isinstance(parent.op, (ast.Sub, ast.BitAnd, ast.BitOr, ast.BitXor))
    return isinstance(parent, ast.Assign) or called(parent, ("sorted", "len"))


if __name__ == "__main__":
    unittest.main()
