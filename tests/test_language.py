"""The rules of LANGUAGE.md that a program can see: what the files of the package may contain."""

import ast
import pathlib
import re
import unittest

PACKAGE = pathlib.Path(__file__).resolve().parent.parent / "falseglim"
FILES = sorted(PACKAGE.rglob("*.py"))

LIBRARY = {
    "math": {"gcd", "lcm", "isqrt", "comb", "perm", "factorial"},
    "heapq": {"heappush", "heappop", "heapify", "heapreplace", "heappushpop"},
    "collections": {"defaultdict"},
}
CALLED = set("""len range enumerate zip min max sum abs sorted reversed int str bool list tuple dict set isinstance
ord repr any all divmod iter next map""".split())
KNOWN = CALLED | set("""bytes NotImplemented True False None ValueError TypeError KeyError property classmethod
staticmethod""".split())
METHODS = set("""append clear copy count endswith extend find get index insert isalnum isalpha isdigit islower isspace
isupper items join keys ljust lower lstrip partition pop remove replace reverse rfind rjust rpartition rsplit rstrip
setdefault split splitlines startswith strip update upper values zfill bit_length""".split())
SPECIAL = set("""__init__ __eq__ __repr__ __str__ __len__ __enter__ __exit__ __call__ __iter__ __add__ __bool__
__contains__ __getitem__""".split())
BARRED = set("register mro elements open input law version_info with_traceback add_note".split())
BARRED_WORDS = re.compile(r"\b(type|typing|typing_extensions|enum|Enum|Generic|Protocol|ABC|namedtuple|NamedTuple)\b"
                          r"|dataclass|overload|contextmanager|\(type\)|Meta|metaclass=|_wall")
BUILTINS = set(dir(__builtins__)) if not isinstance(__builtins__, dict) else set(__builtins__)
STATEMENTS = (ast.Assign, ast.AugAssign, ast.If, ast.While, ast.For, ast.Return, ast.Break, ast.Continue, ast.Pass,
              ast.Raise, ast.Delete, ast.Try, ast.Expr, ast.FunctionDef, ast.ClassDef, ast.ImportFrom, ast.With)


def trees():
    for path in FILES:
        yield path, ast.parse(path.read_text(encoding="utf-8"), str(path))


def bound_names(tree):
    """All names that a file gives a meaning: variables, parameters, functions, classes."""
    for node in ast.walk(tree):
        if isinstance(node, ast.Name) and isinstance(node.ctx, ast.Store):
            yield node.id, node
        elif isinstance(node, ast.arg):
            yield node.arg, node
        elif isinstance(node, (ast.FunctionDef, ast.ClassDef)):
            yield node.name, node
        elif isinstance(node, ast.ExceptHandler) and node.name:
            yield node.name, node


CHANGING = {"append", "clear", "extend", "insert", "pop", "remove", "reverse", "setdefault", "update"}
COPYING = {"list", "sorted", "tuple", "dict", "range", "len", "set", "sum"}


def place_name(node):
    """The name of what a name or an attribute stands for; attributes of one name count as one, whose ever they are."""
    if isinstance(node, ast.Name):
        return node.id
    if isinstance(node, ast.Attribute):
        return "." + node.attr
    return None


def walked_places(node):
    """What a loop goes over: by its name, an attribute, a choice, or through `enumerate`, `zip`, `items` and the like."""
    if place_name(node) is not None:
        return {place_name(node)}
    if isinstance(node, ast.IfExp):
        return walked_places(node.body) | walked_places(node.orelse)
    if isinstance(node, ast.BoolOp):
        return set().union(*[walked_places(part) for part in node.values])
    if isinstance(node, ast.Subscript):
        return walked_places(node.value)
    if isinstance(node, ast.Call) and isinstance(node.func, ast.Attribute) and node.func.attr in (
            "items", "keys", "values"):
        return walked_places(node.func.value)
    if isinstance(node, ast.Call) and isinstance(node.func, ast.Name) and node.func.id not in COPYING:
        return set().union(*[walked_places(part) for part in node.args])
    return set()


def other_names(function):
    """Pairs of names that a function gives to one thing."""
    found = []
    for node in ast.walk(function):
        if not isinstance(node, ast.Assign):
            continue
        for target in node.targets:
            both = [(target, node.value)]
            if isinstance(target, ast.Tuple) and isinstance(node.value, ast.Tuple):
                both = list(zip(target.elts, node.value.elts))
            for name, value in both:
                if place_name(name) and isinstance(value, (ast.Name, ast.Attribute, ast.IfExp, ast.BoolOp)):
                    found += [(place_name(name), other) for other in walked_places(value)]
    return found


def changed_places(nodes):
    """The names of what some rows change."""
    found = []
    for node in nodes:
        for part in ast.walk(node):
            if isinstance(part, ast.Call) and isinstance(part.func, ast.Attribute) and part.func.attr in CHANGING:
                found.append((place_name(part.func.value), part.lineno))
            if isinstance(part, ast.Subscript) and not isinstance(part.ctx, ast.Load):
                found.append((place_name(part.value), part.lineno))
            if isinstance(part, ast.AugAssign):
                found.append((place_name(part.target), part.lineno))
    return [(name, line) for name, line in found if name is not None]


def changed_walks(tree):
    """The lines at which something is changed while a loop or a comprehension goes over it, under whatever name."""
    found = []
    for function in ast.walk(tree):
        if not isinstance(function, ast.FunctionDef):
            continue
        pairs = other_names(function)
        for node in ast.walk(function):
            if isinstance(node, ast.For):
                names, rows = walked_places(node.iter), node.body
            elif isinstance(node, (ast.ListComp, ast.SetComp, ast.DictComp)):
                names = set().union(*[walked_places(part.iter) for part in node.generators])
                rows = [node]
            else:
                continue
            for _ in pairs:
                names = names | {name for pair in pairs for name in pair if names & set(pair)}
            found += [line for name, line in changed_places(rows) if name in names]
    return found


class TestFiles(unittest.TestCase):
    def test_only_python_files_with_plain_names(self):
        self.assertTrue(FILES)
        for path in PACKAGE.rglob("*"):
            if "__pycache__" in path.parts:
                continue
            self.assertTrue(path.is_file(), path)
            self.assertRegex(path.name, r"^([a-z0-9_]+)\.py$")
            self.assertNotIn(path.stem, BUILTINS)
        self.assertTrue((PACKAGE / "__init__.py").exists())
        self.assertLessEqual(len(FILES), 100)

    def test_size_and_characters(self):
        for path in FILES:
            text = path.read_text(encoding="utf-8")
            lines = text.split("\n")
            self.assertLessEqual(len(lines), 399, path)
            for number, line in enumerate(lines, 1):
                self.assertLessEqual(len(line), 120, (path, number))
                self.assertTrue(all(" " <= char <= "~" for char in line), (path, number))
        for path, tree in trees():
            for node in ast.walk(tree):
                if isinstance(node, ast.FunctionDef):
                    self.assertLessEqual(node.end_lineno - node.lineno + 1, 40, (path, node.name))

    def test_words_that_are_not_used(self):
        for path, tree in trees():
            for node in ast.walk(tree):
                if isinstance(node, ast.Constant) and isinstance(node.value, str):
                    self.assertNotIn("%", node.value, (path, node.lineno))
                    self.assertFalse(node.value.endswith(("._", ".__")), (path, node.lineno))
            for name, node in bound_names(tree):
                self.assertNotIn(name, BARRED, (path, node.lineno))
                self.assertFalse(BARRED_WORDS.search(name), (path, name))
            for node in ast.walk(tree):
                if isinstance(node, ast.Attribute):
                    self.assertNotIn(node.attr, BARRED | {"format", "format_map", "args"}, (path, node.lineno))
            for number, line in enumerate(path.read_text(encoding="utf-8").split("\n"), 1):
                self.assertFalse(re.search(r"\(type\)|Meta|metaclass=|_wall", line), (path, number))


class TestImports(unittest.TestCase):
    def imports(self):
        found = {}
        for path, tree in trees():
            found[path.stem] = [node.module for node in ast.walk(tree) if isinstance(node, ast.ImportFrom)
                                and node.module.startswith("falseglim")]
        return found

    def test_imports_stand_at_the_top_and_name_the_defining_file(self):
        defined = {path.stem: {node.name for node in tree.body if isinstance(node, (ast.FunctionDef, ast.ClassDef))}
                   | {target.id for node in tree.body if isinstance(node, ast.Assign) for target in node.targets}
                   for path, tree in trees()}
        for path, tree in trees():
            for node in ast.walk(tree):
                self.assertNotIsInstance(node, ast.Import, (path, node))
                if isinstance(node, ast.ImportFrom):
                    self.assertIn(node, tree.body, path)
                    self.assertEqual(node.level, 0)
                    names = {alias.name for alias in node.names}
                    self.assertTrue(all(alias.asname is None for alias in node.names))
                    if node.module.startswith("falseglim."):
                        self.assertLessEqual(names, defined[node.module.split(".")[1]], (path, node.lineno))
                    else:
                        self.assertLessEqual(names, LIBRARY[node.module], (path, node.lineno))

    def test_each_import_is_used(self):
        for path, tree in trees():
            used = {node.id for node in ast.walk(tree) if isinstance(node, ast.Name)}
            for node in tree.body:
                if isinstance(node, ast.ImportFrom):
                    for alias in node.names:
                        self.assertIn(alias.name, used, path)

    def test_no_circles(self):
        left = {name: {module.split(".")[1] for module in modules} for name, modules in self.imports().items()}
        while left:
            free = [name for name, needs in left.items() if not needs & set(left)]
            self.assertTrue(free, left)
            for name in free:
                del left[name]


class TestCode(unittest.TestCase):
    def test_module_level(self):
        for path, tree in trees():
            names = []
            for node in tree.body:
                if isinstance(node, ast.Expr):
                    self.assertIsInstance(node.value, ast.Constant, (path, node.lineno))
                elif isinstance(node, ast.Assign):
                    self.assertEqual(len(node.targets), 1)
                    self.assertIsInstance(node.targets[0], ast.Name, (path, node.lineno))
                    self.assertFalse([part for part in ast.walk(node.value) if isinstance(part, (ast.Call, ast.ListComp))])
                    above = [one.name for one in tree.body[:tree.body.index(node)] if isinstance(one, ast.FunctionDef)]
                    told = [part.id for part in ast.walk(node.value) if isinstance(part, ast.Name)]
                    self.assertFalse([name for name in told if name not in above], (path, node.lineno))
                    names.append(node.targets[0].id)
                else:
                    self.assertIsInstance(node, (ast.ImportFrom, ast.FunctionDef, ast.ClassDef), (path, node.lineno))
                    names += [node.name] if not isinstance(node, ast.ImportFrom) else [a.name for a in node.names]
            self.assertEqual(len(names), len(set(names)), path)

    def test_statements_and_expressions(self):
        for path, tree in trees():
            for node in ast.walk(tree):
                if isinstance(node, ast.stmt):
                    self.assertIsInstance(node, STATEMENTS, (path, node.lineno))
                self.assertNotIsInstance(node, (ast.GeneratorExp, ast.NamedExpr, ast.Set, ast.Await, ast.Div))
                self.assertFalse(isinstance(node, ast.Constant) and isinstance(node.value, (float, complex, bytes)))
                if isinstance(node, ast.BinOp):
                    self.assertNotIsInstance(node.op, (ast.Div, ast.MatMult, ast.Pow), (path, node.lineno))
                if isinstance(node, ast.Compare):
                    for op, right in zip(node.ops, node.comparators):
                        if isinstance(op, (ast.Is, ast.IsNot)):
                            self.assertIsInstance(right, ast.Constant, (path, node.lineno))

    def test_sets_stand_in_sorted_or_len(self):
        for path, tree in trees():
            allowed = set()
            for node in ast.walk(tree):
                if isinstance(node, ast.Call) and isinstance(node.func, ast.Name) and node.func.id in ("sorted", "len"):
                    allowed.update(id(part) for part in node.args)
            for node in ast.walk(tree):
                is_set = isinstance(node, ast.SetComp) or (
                    isinstance(node, ast.Call) and isinstance(node.func, ast.Name) and node.func.id == "set")
                if is_set:
                    self.assertIn(id(node), allowed, (path, node.lineno))

    def test_iterated_at_once(self):
        for path, tree in trees():
            allowed = set()
            for node in ast.walk(tree):
                if isinstance(node, (ast.For, ast.comprehension)):
                    allowed.add(id(node.iter))
                if isinstance(node, ast.Call) and isinstance(node.func, ast.Name) and node.args and node.func.id in (
                        "list", "tuple", "dict", "sorted", "sum", "any", "all", "enumerate", "zip"):
                    allowed.add(id(node.args[0]))
            for node in ast.walk(tree):
                if isinstance(node, ast.Call):
                    name = node.func.id if isinstance(node.func, ast.Name) else getattr(node.func, "attr", "")
                    if name in ("zip", "enumerate", "reversed", "range", "items", "keys", "values", "map"):
                        self.assertIn(id(node), allowed, (path, node.lineno))

    def test_what_is_iterated_over_is_not_modified(self):
        for path, tree in trees():
            self.assertEqual(changed_walks(tree), [], path)

    def test_what_is_iterated_over_is_found_under_its_other_names(self):
        for rows in ("for x in xs:\n  xs.append(x)", "for x in xs:\n  xs[x] = 1", "for x in xs.items():\n  xs.pop(x)",
                     "for n, x in enumerate(xs):\n  del xs[n]", "for x in self.xs:\n  self.xs.append(x)",
                     "for x in xs or ys:\n  ys.append(x)", "for x in (xs if c else ys):\n  ys[x] += 1",
                     "while c:\n  ys = {}\n  for x in xs:\n    ys[x] = 1\n  xs = ys",
                     "xs = ys\nfor x in xs:\n  ys.append(x)", "self.xs = ys\nfor x in self.xs:\n  ys.append(x)",
                     "a, xs = 1, ys\nfor x in xs:\n  ys.append(x)", "for x in box.xs:\n  self.xs.append(x)",
                     "return [xs.pop() for x in xs]"):
            tree = ast.parse("def f(self, xs, ys, c):\n  " + rows.replace("\n", "\n  "))
            self.assertTrue(changed_walks(tree), rows)
        for rows in ("for x in list(xs):\n  xs.append(x)", "for x in sorted(xs):\n  xs[x] = 1", "for x in xs:\n  ys.append(x)",
                     "ys = list(xs)\nfor x in xs:\n  ys.append(x)", "for x in xs[0]:\n  ys[x].append(x)"):
            tree = ast.parse("def f(self, xs, ys, c):\n  " + rows.replace("\n", "\n  "))
            self.assertFalse(changed_walks(tree), rows)

    def test_builtins_and_their_names(self):
        for path, tree in trees():
            bound = {name for name, _ in bound_names(tree)}
            imported = {alias.name for node in tree.body if isinstance(node, ast.ImportFrom) for alias in node.names}
            classes = {node.name for node in tree.body if isinstance(node, ast.ClassDef)}
            for name, node in bound_names(tree):
                if not isinstance(node, ast.FunctionDef):
                    self.assertNotIn(name, imported, (path, node.lineno))
                if not isinstance(node, ast.ClassDef):
                    self.assertNotIn(name, classes, (path, node.lineno))
                if name not in SPECIAL:
                    self.assertNotIn(name, BUILTINS, (path, node.lineno))
                    self.assertFalse(name.startswith("__"), (path, name))
            for node in ast.walk(tree):
                if isinstance(node, ast.Name) and isinstance(node.ctx, ast.Load):
                    self.assertIn(node.id, KNOWN | bound | imported, (path, node.lineno))
                    self.assertNotEqual(node.id, "_", (path, node.lineno))

    def test_methods_of_values(self):
        own = {node.name for _, tree in trees() for node in ast.walk(tree) if isinstance(node, ast.FunctionDef)}
        for path, tree in trees():
            for node in ast.walk(tree):
                if isinstance(node, ast.Call) and isinstance(node.func, ast.Attribute):
                    self.assertIn(node.func.attr, METHODS | own, (path, node.lineno))
                    if node.func.attr in METHODS - own:
                        self.assertFalse(node.keywords, (path, node.lineno))
                if isinstance(node, ast.Call) and isinstance(node.func, ast.Name) and node.func.id in CALLED:
                    allowed = {"sorted": {"key", "reverse"}, "min": {"key", "default"}, "max": {"key", "default"}}
                    self.assertLessEqual({word.arg for word in node.keywords}, allowed.get(node.func.id, set()),
                                         (path, node.lineno))
                if isinstance(node, ast.Call) and isinstance(node.func, ast.Name) and node.func.id == "print":
                    self.fail((path, node.lineno))

    def test_no_annotations_and_plain_decorators(self):
        for path, tree in trees():
            for node in ast.walk(tree):
                if isinstance(node, ast.arg):
                    self.assertIsNone(node.annotation, (path, node.lineno))
                if isinstance(node, ast.FunctionDef):
                    self.assertIsNone(node.returns, (path, node.lineno))
                    for decorator in node.decorator_list:
                        self.assertIn(ast.unparse(decorator), ("property", "classmethod", node.name + ".setter"),
                                      (path, node.lineno))
                if isinstance(node, ast.ClassDef):
                    self.assertFalse(node.decorator_list, (path, node.lineno))


class TestClasses(unittest.TestCase):
    def classes(self):
        for path, tree in trees():
            for node in tree.body:
                if isinstance(node, ast.ClassDef):
                    yield path, node

    def test_classes_stand_at_module_level_and_contain_methods(self):
        for path, tree in trees():
            for node in ast.walk(tree):
                if isinstance(node, ast.ClassDef):
                    self.assertIn(node, tree.body, path)
        for path, node in self.classes():
            for part in node.body:
                self.assertTrue(isinstance(part, ast.FunctionDef) or (
                    isinstance(part, ast.Expr) and isinstance(part.value, ast.Constant)), (path, part.lineno))
                if isinstance(part, ast.FunctionDef) and part.name.startswith("__"):
                    self.assertIn(part.name, SPECIAL, (path, part.lineno))

    def test_no_name_is_a_method_and_an_attribute(self):
        methods, attributes = {}, set()
        for path, node in self.classes():
            names = [part.name for part in node.body if isinstance(part, ast.FunctionDef)
                     and not [word for word in part.decorator_list if ast.unparse(word).endswith(".setter")]]
            self.assertEqual(len(names), len(set(names)), (path, node.name))
            methods.update({name: node.name for name in names})
        for path, tree in trees():
            for part in ast.walk(tree):
                if isinstance(part, ast.Attribute) and isinstance(part.ctx, ast.Store):
                    attributes.add(part.attr)
        self.assertFalse(set(methods) & attributes)
        self.assertFalse(attributes & METHODS)
        self.assertLessEqual(set(methods) & METHODS, {"copy"})

    def test_iteration_and_length_have_one_form(self):
        for path, node in self.classes():
            methods = {part.name: part for part in node.body if isinstance(part, ast.FunctionDef)}
            if "__getitem__" in methods:
                self.assertIn("__iter__", methods, (path, node.name))
            for name, form in (("__iter__", r"^return iter\(self\.\w+\)$"), ("__len__", r"^return len\(self\.\w+\)$")):
                if name in methods:
                    self.assertEqual(len(methods[name].body), 1, (path, node.name))
                    self.assertRegex(ast.unparse(methods[name].body[0]), form)

    def test_properties_only_return_what_is_kept(self):
        for path, node in self.classes():
            for part in node.body:
                if isinstance(part, ast.FunctionDef) and [ast.unparse(d) for d in part.decorator_list] == ["property"]:
                    rows = [row for row in part.body if not isinstance(row, ast.Expr)]
                    self.assertEqual(len(rows), 1, (path, part.name))
                    self.assertIsInstance(rows[0], ast.Return, (path, part.name))

    def test_init_has_no_return_and_no_lambda(self):
        for path, node in self.classes():
            for part in node.body:
                if isinstance(part, ast.FunctionDef) and part.name == "__init__":
                    for inner in ast.walk(part):
                        self.assertNotIsInstance(inner, (ast.Return, ast.Lambda), (path, node.name))

    def test_exits_only_assign_what_is_kept(self):
        for path, node in self.classes():
            for part in node.body:
                if isinstance(part, ast.FunctionDef) and part.name == "__exit__":
                    self.assertEqual([word.arg for word in part.args.args], ["self", "kind", "value", "trace"])
                    for row in part.body:
                        self.assertIsInstance(row, ast.Assign, (path, row.lineno))
                        self.assertTrue(place_name(row.targets[0]) and place_name(row.value), (path, row.lineno))

    def test_errors_are_plain(self):
        for path, node in self.classes():
            for inner in ast.walk(node):
                if isinstance(inner, ast.Raise) and inner.exc is not None:
                    self.assertIsInstance(inner.exc, ast.Call, (path, inner.lineno))
        for path, tree in trees():
            for node in ast.walk(tree):
                if isinstance(node, ast.ExceptHandler):
                    self.assertIsNotNone(node.type, path)
                    self.assertNotIn(ast.unparse(node.type), ("Exception", "ValueError", "TypeError"), path)


if __name__ == "__main__":
    unittest.main()
