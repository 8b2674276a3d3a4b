"""The package keeps to the subset of Python in which it is written."""
import ast
import builtins
import os
import unittest

PACKAGE = os.path.join(os.path.dirname(os.path.dirname(os.path.abspath(__file__))), "widestkind")

LIBRARY = {"math": {"gcd", "lcm"}, "heapq": {"heapify", "heappop", "heappush"}}
BUILTINS = set("""len range enumerate zip min max sum abs sorted reversed int str bool list tuple dict set isinstance
ord repr any all property divmod ValueError TypeError KeyError IndexError LookupError True False None""".split())
METHODS = set("""append clear copy count endswith extend find get index insert isalnum isalpha isdigit islower isspace
isupper items join keys ljust lower lstrip partition pop remove replace reverse rfind rjust rpartition rsplit rstrip
setdefault split splitlines startswith strip update upper values zfill bit_length isascii add discard""".split())
BARRED = set("_record _outside _cold register mro elements open input law version_info with_traceback add_note".split())
WORDS = set("""type typing enum Enum Generic Protocol ABC namedtuple NamedTuple dataclass overload
contextmanager""".split())
DUNDERS = {"__init__", "__eq__", "__str__", "__add__", "__sub__", "__mul__"}
STATEMENTS = (ast.FunctionDef, ast.ClassDef, ast.Return, ast.Assign, ast.AugAssign, ast.For, ast.While, ast.If,
              ast.Raise, ast.Try, ast.Expr, ast.Pass, ast.Break, ast.Continue, ast.Delete, ast.ImportFrom)


def files():
    return sorted(name for name in os.listdir(PACKAGE) if name != "__pycache__")


def sources():
    for name in files():
        with open(os.path.join(PACKAGE, name), encoding="utf-8") as file:
            yield name, file.read()


def trees():
    for name, text in sources():
        yield name, ast.parse(text)


class Language(unittest.TestCase):
    def test_files(self):
        for name in files():
            self.assertRegex(name, r"^[a-z_]+\.py$")
        self.assertLessEqual(len(files()), 100)

    def test_sizes_and_signs(self):
        for name, text in sources():
            lines = text.split("\n")
            self.assertLessEqual(len(lines), 400, name)
            for number, line in enumerate(lines, 1):
                self.assertLessEqual(len(line), 120, f"{name}:{number}")
                self.assertTrue(all(" " <= sign <= "~" for sign in line), f"{name}:{number}")
        for name, tree in trees():
            for node in ast.walk(tree):
                if isinstance(node, ast.FunctionDef):
                    self.assertLessEqual(node.end_lineno - node.lineno + 1, 40, f"{name}:{node.name}")

    def test_imports(self):
        edges = {}
        for name, tree in trees():
            bound = []
            for node in ast.walk(tree):
                self.assertNotIsInstance(node, (ast.Import, ast.Global, ast.AsyncFunctionDef))
                if isinstance(node, ast.ImportFrom):
                    self.assertIn(node, tree.body)
                    self.assertEqual(node.level, 0)
                    names = {alias.name for alias in node.names}
                    self.assertTrue(all(alias.asname is None for alias in node.names))
                    bound.extend(names)
                    if node.module in LIBRARY:
                        self.assertLessEqual(names, LIBRARY[node.module])
                        continue
                    package, module = node.module.split(".")
                    self.assertEqual(package, "widestkind")
                    edges.setdefault(name, set()).add(module + ".py")
                    with open(os.path.join(PACKAGE, module + ".py"), encoding="utf-8") as file:
                        body = ast.parse(file.read()).body
                    defined = {item.name for item in body if isinstance(item, (ast.FunctionDef, ast.ClassDef))}
                    defined |= {item.targets[0].id for item in body if isinstance(item, ast.Assign)}
                    self.assertLessEqual(names, defined, name)
            top = [node.name for node in tree.body if isinstance(node, (ast.FunctionDef, ast.ClassDef))]
            top += [node.targets[0].id for node in tree.body if isinstance(node, ast.Assign)]
            self.assertEqual(len(top + bound), len(set(top + bound)), name)
            used = {node.id for node in ast.walk(tree) if isinstance(node, ast.Name)}
            self.assertEqual([one for one in bound if one not in used], [], name)
            self.check_locals(name, tree, set(bound) | {n.name for n in tree.body if isinstance(n, ast.ClassDef)})
        self.check_no_circle(edges)

    def check_locals(self, name, tree, taken):
        for node in ast.walk(tree):
            if isinstance(node, ast.Name) and isinstance(node.ctx, ast.Store):
                local = node.id
            elif isinstance(node, ast.arg):
                local = node.arg
            else:
                continue
            self.assertNotIn(local, taken, name)
            self.assertFalse(hasattr(builtins, local), f"{name}: {local}")

    def check_no_circle(self, edges):
        left = dict(edges)
        while left:
            free = [name for name in left if not left[name] & set(left)]
            self.assertTrue(free, left)
            for name in free:
                del left[name]

    def test_statements_and_expressions(self):
        barred = (ast.GeneratorExp, ast.Yield, ast.YieldFrom, ast.Await, ast.JoinedStr, ast.NamedExpr, ast.AnnAssign,
                  ast.Div, ast.Match, ast.With, ast.Nonlocal, ast.Assert)
        for name, tree in trees():
            for node in ast.walk(tree):
                place = f"{name}:{getattr(node, 'lineno', 0)}"
                self.assertNotIsInstance(node, barred, place)
                if isinstance(node, ast.stmt):
                    self.assertIsInstance(node, STATEMENTS, place)
                if isinstance(node, ast.Constant):
                    self.assertNotIsInstance(node.value, (float, complex), place)
                    if isinstance(node.value, str):
                        self.assertNotIn("%", node.value, place)
                if isinstance(node, (ast.Is, ast.IsNot)):
                    continue
                if isinstance(node, ast.Compare) and isinstance(node.ops[0], (ast.Is, ast.IsNot)):
                    self.assertIsInstance(node.comparators[0], ast.Constant, place)
                if isinstance(node, ast.FunctionDef):
                    self.assertEqual([d.id for d in node.decorator_list if d.id != "property"], [], place)

    def test_module_level(self):
        for name, tree in trees():
            for node in tree.body:
                docstring = isinstance(node, ast.Expr) and isinstance(node.value, ast.Constant)
                kinds = (ast.ImportFrom, ast.FunctionDef, ast.ClassDef, ast.Assign)
                self.assertTrue(docstring or isinstance(node, kinds), name)
                if isinstance(node, ast.Assign):
                    self.assertEqual(len(node.targets), 1)
                    self.assertFalse(any(isinstance(x, (ast.Call, ast.ListComp)) for x in ast.walk(node.value)))

    def test_tables_at_module_level_are_only_read(self):
        for name, tree in trees():
            tables = {node.targets[0].id for node in tree.body
                      if isinstance(node, ast.Assign) and isinstance(node.value, (ast.Dict, ast.List))}
            parents = {child: node for node in ast.walk(tree) for child in ast.iter_child_nodes(node)}
            for node in ast.walk(tree):
                if isinstance(node, ast.Name) and node.id in tables and isinstance(node.ctx, ast.Load):
                    above = parents[node]
                    fine = isinstance(above, ast.Subscript) and above.value is node
                    fine = fine or isinstance(above, ast.Compare) and isinstance(above.ops[0], (ast.In, ast.NotIn))
                    fine = fine or isinstance(above, ast.Attribute) and above.attr in {"get", "items", "keys", "values"}
                    self.assertTrue(fine, f"{name}:{node.lineno}")
                if isinstance(node, ast.Call) and isinstance(node.func, ast.Subscript):
                    self.fail(f"{name}:{node.lineno}")

    def test_names(self):
        for name, tree in trees():
            own = {node.name for node in ast.walk(tree) if isinstance(node, ast.FunctionDef)}
            for node in ast.walk(tree):
                if isinstance(node, ast.FunctionDef):
                    self.assertTrue(not node.name.startswith("__") or node.name in DUNDERS, node.name)
                    dunder = node.name.startswith("__")
                    self.assertFalse(hasattr(builtins, node.name) and not dunder, f"{name}: {node.name}")
                    self.assertNotIn(node.name, BARRED)
                    for default in node.args.defaults + [d for d in node.args.kw_defaults if d]:
                        self.assertIsInstance(default, (ast.Constant, ast.Tuple, ast.UnaryOp))
                if isinstance(node, ast.Name):
                    self.assertNotIn(node.id, BARRED | WORDS)
                    if isinstance(node.ctx, ast.Load) and hasattr(builtins, node.id):
                        self.assertIn(node.id, BUILTINS, f"{name}:{node.lineno}")
                    if node.id == "_":
                        self.assertIsInstance(node.ctx, ast.Store, f"{name}:{node.lineno}")
                if isinstance(node, ast.Attribute):
                    self.assertNotIn(node.attr, {"sort", "format", "args"} | BARRED)
                    self.assertFalse(node.attr.startswith("__") and node.attr not in DUNDERS)
            self.assertTrue(own is not None)

    def test_methods_of_builtin_values(self):
        own = set()
        for _, tree in trees():
            for node in ast.walk(tree):
                if isinstance(node, ast.ClassDef):
                    own |= {item.name for item in node.body if isinstance(item, ast.FunctionDef)}
        self.assertEqual(own & METHODS, set())
        for value in ("", 1, [], {}, set(), b""):
            self.assertEqual([one for one in own if hasattr(value, one) and not one.startswith("__")], [])
        for name, tree in trees():
            for node in ast.walk(tree):
                if isinstance(node, ast.Call) and isinstance(node.func, ast.Attribute):
                    self.assertIn(node.func.attr, own | METHODS, f"{name}:{node.lineno}")

    def test_attributes(self):
        taken = set()
        for value in ("", 1, [], {}, set(), b""):
            taken |= set(dir(value))
        taken -= {"count", "index", "title", "find", "get", "join", "lower", "upper", "split", "strip", "copy", "add"}
        for name, tree in trees():
            for node in ast.walk(tree):
                if isinstance(node, ast.Attribute) and isinstance(node.ctx, ast.Store):
                    self.assertNotIn(node.attr, taken, f"{name}:{node.lineno}")

    def test_no_name_is_method_and_attribute(self):
        own = set()
        stored = set()
        for _, tree in trees():
            for node in ast.walk(tree):
                if isinstance(node, ast.ClassDef):
                    own |= {item.name for item in node.body if isinstance(item, ast.FunctionDef)}
                if isinstance(node, ast.Attribute) and isinstance(node.ctx, ast.Store):
                    stored.add(node.attr)
        self.assertEqual(own & stored, set())

    def test_loops_and_sets(self):
        views = {"zip", "enumerate", "reversed", "range"}
        for name, tree in trees():
            parents = {child: node for node in ast.walk(tree) for child in ast.iter_child_nodes(node)}
            for node in ast.walk(tree):
                if isinstance(node, ast.Call) and isinstance(node.func, ast.Name) and node.func.id in views:
                    above = parents[node]
                    fine = isinstance(above, (ast.For, ast.comprehension))
                    if isinstance(above, ast.Call) and isinstance(above.func, ast.Name):
                        fine = above.func.id in {"list", "tuple", "dict", "sorted", "sum", "enumerate", "zip"}
                    self.assertTrue(fine, f"{name}:{node.lineno}")
                if isinstance(node, (ast.Set, ast.SetComp)):
                    above = parents[node]
                    self.assertTrue(isinstance(above, ast.Call) and above.func.id in {"sorted", "len"}, name)
                if isinstance(node, ast.FunctionDef):
                    self.check_sets(name, node)

    def test_loops_do_not_change_what_they_go_over(self):
        changing = {"append", "clear", "extend", "insert", "pop", "remove", "reverse", "setdefault", "update", "discard", "add"}
        for name, tree in trees():
            for node in ast.walk(tree):
                if not isinstance(node, ast.For):
                    continue
                over = {ast.dump(one) for one in self.gone_over(node.iter)}
                for inner in [one for part in node.body for one in ast.walk(part)]:
                    changed = []
                    if isinstance(inner, ast.Call) and isinstance(inner.func, ast.Attribute) and inner.func.attr in changing:
                        changed = [inner.func.value]
                    if isinstance(inner, ast.Call) and isinstance(inner.func, ast.Name) and inner.func.id.startswith("heap"):
                        changed = [inner.args[0]]
                    if isinstance(inner, ast.Subscript) and isinstance(inner.ctx, (ast.Store, ast.Del)):
                        changed = [inner.value]
                    for one in changed:
                        self.assertNotIn(ast.dump(one), over, f"{name}:{inner.lineno}")

    def gone_over(self, node):
        if isinstance(node, ast.Call) and isinstance(node.func, ast.Name) and node.func.id in {"zip", "enumerate", "reversed"}:
            return [one for arg in node.args for one in self.gone_over(arg)]
        if isinstance(node, ast.Call) and isinstance(node.func, ast.Attribute) and node.func.attr in {"items", "keys", "values"}:
            return [node.func.value]
        return [node] if isinstance(node, (ast.Name, ast.Attribute, ast.Subscript)) else []

    def check_sets(self, name, function):
        stored = set()
        for node in ast.walk(function):
            if isinstance(node, ast.Assign) and isinstance(node.value, ast.Call):
                if isinstance(node.value.func, ast.Name) and node.value.func.id == "set":
                    self.assertNotIn(node.targets[0].id, stored)
                    stored.add(node.targets[0].id)
        parents = {child: node for node in ast.walk(function) for child in ast.iter_child_nodes(node)}
        for node in ast.walk(function):
            if isinstance(node, ast.Name) and node.id in stored and isinstance(node.ctx, ast.Load):
                above = parents[node]
                fine = isinstance(above, ast.Compare) and isinstance(above.ops[0], (ast.In, ast.NotIn))
                fine = fine or isinstance(above, ast.Attribute) and above.attr in {"add", "discard"}
                self.assertTrue(fine, f"{name}:{node.lineno}")


if __name__ == "__main__":
    unittest.main()
