"""The package keeps to its small part of Python. These rules are narrower than they have to be in places."""

import ast
import os
import unittest
import builtins

FOLDER = os.path.join(os.path.dirname(os.path.dirname(os.path.abspath(__file__))), "unsewn")
BUILTINS = set(
    "len range enumerate zip min max sum abs sorted reversed int str bool list tuple dict set isinstance ord repr any all "
    "divmod iter Exception ValueError TypeError KeyError IndexError LookupError NotImplemented".split())
METHODS = set(
    "append clear copy count endswith extend find get index insert isalnum isalpha isdigit islower isspace isupper items "
    "join keys ljust lower lstrip partition pop remove replace reverse rfind rjust rpartition rsplit rstrip setdefault "
    "split splitlines startswith strip update upper values zfill bit_length isascii".split())
FROM_MATH = set("gcd lcm isqrt comb perm factorial".split())
BARRED = set(
    "register mro elements open input law version_info with_traceback add_note attrgetter breakpoint builtins compile "
    "copyright credits delattr dir eval exec exit gc getattr globals hasattr help id importlib license locals "
    "methodcaller os quit setattr super type vars sys typing enum Enum Flag Generic Protocol ABC namedtuple dataclass "
    "overload contextmanager".split())
DUNDERS = set("__init__ __eq__ __len__ __iter__ __repr__ __str__".split())
# A node of any other kind has no place in the package.
NODES = (
    ast.Module, ast.Import, ast.ImportFrom, ast.alias, ast.FunctionDef, ast.ClassDef, ast.arguments, ast.arg, ast.Lambda,
    ast.Return, ast.Assign, ast.AugAssign, ast.For, ast.While, ast.If, ast.Raise, ast.Try, ast.ExceptHandler, ast.Assert,
    ast.Expr, ast.Pass, ast.Break, ast.Continue, ast.Delete, ast.BoolOp, ast.And, ast.Or, ast.BinOp, ast.Add, ast.Sub,
    ast.Mult, ast.FloorDiv, ast.Mod, ast.Pow, ast.LShift, ast.RShift, ast.BitAnd, ast.BitOr, ast.BitXor, ast.UnaryOp,
    ast.Not, ast.USub, ast.Compare, ast.Eq, ast.NotEq, ast.Lt, ast.LtE, ast.Gt, ast.GtE, ast.Is, ast.IsNot, ast.In,
    ast.NotIn, ast.IfExp, ast.Dict, ast.List, ast.Tuple, ast.ListComp, ast.DictComp, ast.SetComp, ast.comprehension,
    ast.Call, ast.keyword, ast.Constant, ast.Attribute, ast.Subscript, ast.Slice, ast.Starred, ast.Name, ast.Load,
    ast.Store, ast.Del, ast.Yield, ast.YieldFrom, ast.JoinedStr, ast.FormattedValue,
)


def read_all():
    """A dict from each module's name to its text."""
    texts = {}
    for name in sorted(os.listdir(FOLDER)):
        if name != "__pycache__":
            with open(os.path.join(FOLDER, name), encoding="utf-8") as file:
                texts[name] = file.read()
    return texts


def local_names(function):
    """The names that a function binds: parameters, targets, nested functions and caught errors."""
    names = set()
    for node in ast.walk(function):
        if isinstance(node, ast.arg):
            names.add(node.arg)
        elif isinstance(node, ast.Name) and isinstance(node.ctx, ast.Store):
            names.add(node.id)
        elif isinstance(node, ast.ExceptHandler) and node.name:
            names.add(node.name)
    return names


class TestLanguage(unittest.TestCase):
    @classmethod
    def setUpClass(cls):
        cls.texts = read_all()
        cls.trees = {name: ast.parse(text) for name, text in cls.texts.items()}
        cls.bound = {}
        for name, tree in cls.trees.items():
            cls.bound[name] = [node.name for node in tree.body if isinstance(node, (ast.FunctionDef, ast.ClassDef))]
            for node in tree.body:
                if isinstance(node, ast.Assign):
                    cls.bound[name].extend(target.id for target in node.targets)

    def nodes(self, *kinds):
        for name, tree in self.trees.items():
            for node in ast.walk(tree):
                if isinstance(node, kinds):
                    yield f"{name}:{getattr(node, 'lineno', 0)}", node

    def test_files(self):
        self.assertTrue(len(self.texts) <= 100)
        for name, text in self.texts.items():
            self.assertRegex(name, r"^[a-z0-9_]+\.py$")
            self.assertTrue(all(char == "\n" or " " <= char <= "~" for char in text), name)
            lines = text.split("\n")
            self.assertTrue(len(lines) <= 399, name)
            self.assertTrue(max(len(line) for line in lines) <= 120, name)

    def test_functions_are_short(self):
        for at, node in self.nodes(ast.FunctionDef):
            self.assertTrue(node.end_lineno - node.lineno < 40, at)
            self.assertEqual(node.decorator_list, [], at)

    def test_nodes(self):
        for name, tree in self.trees.items():
            for node in ast.walk(tree):
                self.assertIsInstance(node, NODES, f"{name}:{getattr(node, 'lineno', 0)}")

    def test_module_level(self):
        for name, tree in self.trees.items():
            for at, node in enumerate(tree.body):
                if at == 0:
                    self.assertTrue(isinstance(node, ast.Expr) and isinstance(node.value.value, str), name)
                else:
                    self.assertIsInstance(node, (ast.ImportFrom, ast.FunctionDef, ast.ClassDef, ast.Assign), name)
            names = self.bound[name] + [
                alias.name for node in tree.body if isinstance(node, ast.ImportFrom) for alias in node.names]
            self.assertEqual(len(names), len(set(names)), name)

    def test_imports(self):
        graph = {}
        for name, tree in self.trees.items():
            graph[name] = []
            for node in ast.walk(tree):
                self.assertNotIsInstance(node, ast.Import)
                if isinstance(node, ast.ImportFrom):
                    self.assertEqual(node.level, 0)
                    self.assertTrue(all(alias.asname is None for alias in node.names))
                    told = {alias.name for alias in node.names}
                    if node.module == "math":
                        self.assertTrue(told <= FROM_MATH)
                    else:
                        package, module = node.module.split(".")
                        self.assertEqual(package, "unsewn")
                        self.assertTrue(told <= set(self.bound[module + ".py"]), name)
                        graph[name].append(module + ".py")
                    used = {part.id for part in ast.walk(tree) if isinstance(part, ast.Name)}
                    self.assertTrue(told <= used, (name, told - used))
        while graph:
            free = [name for name in graph if not set(graph[name]) & set(graph)]
            self.assertTrue(free, graph)
            for name in free:
                del graph[name]

    def test_each_helper_stands_once(self):
        places = {}
        for name, names in self.bound.items():
            for bound in names:
                places.setdefault(bound, []).append(name)
        self.assertEqual({bound: files for bound, files in places.items() if len(files) > 1}, {})

    def test_names(self):
        taken = set(dir(builtins))
        for name, tree in self.trees.items():
            imported = {
                alias.name for node in tree.body if isinstance(node, ast.ImportFrom) for alias in node.names}
            classes = {node.name for node in tree.body if isinstance(node, ast.ClassDef)}
            for node in ast.walk(tree):
                if isinstance(node, (ast.FunctionDef, ast.Lambda)):
                    names = local_names(node)
                    self.assertEqual(names & (taken | imported | classes | BARRED), set(), name)
                if isinstance(node, (ast.FunctionDef, ast.ClassDef)):
                    self.assertNotIn(node.name, BARRED | taken, name)
                    if node.name.startswith("__"):
                        self.assertIn(node.name, DUNDERS)
                if isinstance(node, ast.Name) and isinstance(node.ctx, ast.Load):
                    self.assertNotEqual(node.id, "_", name)
                    if node.id in taken:
                        self.assertIn(node.id, BUILTINS, name)

    def test_calls(self):
        own = {
            part.name for _, node in self.nodes(ast.ClassDef) for part in node.body if isinstance(part, ast.FunctionDef)}
        for at, node in self.nodes(ast.Call):
            if isinstance(node.func, ast.Attribute):
                self.assertIn(node.func.attr, METHODS | own, at)
            if isinstance(node.func, ast.Name) and node.func.id in BUILTINS:
                told = {keyword.arg for keyword in node.keywords}
                self.assertTrue(told <= {"key", "default", "reverse"}, at)

    def test_sets_stand_only_where_they_are_used_up(self):
        used = {}
        for at, node in self.nodes(ast.Call, ast.Compare):
            if isinstance(node, ast.Compare):
                used.update({id(part): True for part in [node.left] + node.comparators})
            elif isinstance(node.func, ast.Name) and node.func.id in ("len", "sorted"):
                used.update({id(part): True for part in node.args})
        for at, node in self.nodes(ast.Call, ast.SetComp):
            if isinstance(node, ast.SetComp) or (isinstance(node.func, ast.Name) and node.func.id == "set"):
                self.assertIn(id(node), used, at)

    def test_generators_are_iterated_at_once(self):
        names = {}
        for at, node in self.nodes(ast.FunctionDef):
            if any(isinstance(part, (ast.Yield, ast.YieldFrom)) for part in ast.walk(node)):
                names[node.name] = at
        iterated = {id(node.iter) for _, node in self.nodes(ast.For, ast.comprehension)}
        iterated |= {id(node.value) for _, node in self.nodes(ast.YieldFrom)}
        for at, node in self.nodes(ast.Call):
            if isinstance(node.func, ast.Name) and node.func.id in ("list", "tuple", "sorted"):
                iterated.add(id(node.args[0]))
        for at, node in self.nodes(ast.Call):
            if isinstance(node.func, ast.Name) and node.func.id in names:
                self.assertIn(id(node), iterated, at)

    def test_generators_are_passed_plain_values(self):
        names = {
            node.name for _, node in self.nodes(ast.FunctionDef)
            if any(isinstance(part, (ast.Yield, ast.YieldFrom)) for part in ast.walk(node))}
        for at, node in self.nodes(ast.Call):
            if isinstance(node.func, ast.Name) and node.func.id in names:
                self.assertEqual(node.keywords, [], at)
                for part in node.args:
                    self.assertIsInstance(part, (ast.Name, ast.Attribute, ast.Constant, ast.Lambda), at)

    def test_equality_is_one_comparison(self):
        for at, node in self.nodes(ast.FunctionDef):
            if node.name == "__eq__":
                told, = node.body
                self.assertTrue(isinstance(told, ast.Return) and isinstance(told.value, ast.BoolOp), at)
                self.assertIsInstance(told.value.op, ast.And, at)
                first, *rest = told.value.values
                self.assertEqual(ast.unparse(first.func), "isinstance", at)
                for part in rest:
                    mine, theirs = ast.unparse(part).split(" == ")
                    self.assertEqual(mine.replace("self.", "other."), theirs, at)

    def test_iteration_is_over_one_attribute(self):
        for at, node in self.nodes(ast.FunctionDef):
            if node.name == "__iter__":
                told, = node.body
                self.assertRegex(ast.unparse(told), r"^return iter\(self\.[a-z_]+\)$", at)

    def test_no_two_lambdas_on_a_line(self):
        lines = [at for at, _ in self.nodes(ast.Lambda)]
        self.assertEqual(len(lines), len(set(lines)), lines)

    def test_no_operators_stand_in_classes(self):
        for at, node in self.nodes(ast.ClassDef):
            told = {part.name for part in node.body if isinstance(part, ast.FunctionDef) and part.name.startswith("__")}
            self.assertTrue(told <= {"__init__", "__eq__", "__iter__"}, at)

    def test_module_values_are_only_read(self):
        tables = {
            target.id for tree in self.trees.values() for node in tree.body if isinstance(node, ast.Assign)
            for target in node.targets}
        self.assertTrue(tables)
        read = set()
        for _, node in self.nodes(ast.Subscript, ast.Compare, ast.Attribute, ast.Assign):
            if isinstance(node, ast.Compare):
                read |= {id(part) for part in node.comparators}
            elif isinstance(node, ast.Attribute):
                read |= {id(node.value)} if node.attr == "get" else set()
            elif isinstance(node, ast.Assign):
                read |= {id(part) for part in node.targets}
            else:
                read.add(id(node.value))
        for at, node in self.nodes(ast.Name):
            if node.id in tables:
                self.assertIn(id(node), read, at)

    def test_constants(self):
        for at, node in self.nodes(ast.Constant):
            self.assertIsInstance(node.value, (int, str, type(None)), at)
            if isinstance(node.value, str):
                self.assertNotIn("%", node.value, at)
        for at, node in self.nodes(ast.Compare):
            if any(isinstance(sign, (ast.Is, ast.IsNot)) for sign in node.ops):
                self.assertIsInstance(node.comparators[0], ast.Constant, at)
