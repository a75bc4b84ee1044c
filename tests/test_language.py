"""The form of the code: what can be seen by a program of the rules L1 to L28.

Where a rule allows more than the package needs, the tests here allow less: widen them with care.
"""

import ast
import builtins
import pathlib
import re

from helper import Case

ROOT = pathlib.Path(__file__).resolve().parent.parent / "toldstarts"
FILES = sorted(ROOT.rglob("*.py"))
BUILTINS = set("""len range enumerate zip min max sum abs sorted reversed int str bool list tuple dict set isinstance ord
    repr any all divmod iter ValueError TypeError KeyError IndexError LookupError ArithmeticError OverflowError
    NotImplemented property classmethod""".split())
BUILTIN_METHODS = set("""append count endswith extend find get index insert isalnum isalpha isdigit items join keys ljust
    lower lstrip partition pop remove replace rfind rjust rpartition rsplit rstrip setdefault split splitlines startswith
    strip update upper values zfill bit_length copy clear isascii islower isprintable""".split())
LIBRARY = {"heapq": ("heappush", "heappop"), "math": ("gcd", "lcm")}
BAD_NAMES = set("register mro elements open input law version_info with_traceback add_note".split())
BAD_WORDS = set("""type typing typing_extensions enum Enum IntEnum StrEnum Flag IntFlag Generic Protocol ABC ABCMeta
    namedtuple NamedTuple TypedDict TYPE_CHECKING abstractmethod""".split())
DUNDERS = set("""__init__ __eq__ __repr__ __str__ __len__ __iter__ __bool__ __contains__ __getitem__ __add__ __sub__
    __mul__ __enter__ __exit__""".split())
NODES = set("""Module Expr Constant Import ImportFrom alias FunctionDef ClassDef arguments arg Return Assign For While If
    Raise Pass Break Continue BoolOp And Or BinOp Add Sub Mult FloorDiv Mod Pow LShift RShift BitAnd BitOr BitXor UnaryOp
    Not USub IfExp Dict ListComp DictComp comprehension Compare Eq NotEq Lt LtE Gt GtE Is IsNot In NotIn Call keyword
    JoinedStr FormattedValue Attribute Subscript Slice Starred Name Load Store List Tuple Yield YieldFrom Try ExceptHandler
    Delete Del With withitem""".split())


def trees():
    return [(path, ast.parse(path.read_text())) for path in FILES]


def all_nodes(kind):
    return [(path, node) for path, tree in trees() for node in ast.walk(tree) if isinstance(node, kind)]


MODIFIERS = ("append", "extend", "pop", "setdefault", "update", "clear", "remove", "insert", "reverse", "sort")


def root_of_field(node):
    """The name of the object of which an expression is a field, or an item of one; None for all others."""
    has_field = False
    while isinstance(node, (ast.Attribute, ast.Subscript)):
        has_field = has_field or isinstance(node, ast.Attribute)
        node = node.value
    return node.id if has_field and isinstance(node, ast.Name) else None


def walked_roots(node):
    """The names of the objects of which a loop walks a field where it stands, without a copy."""
    if isinstance(node, (ast.Attribute, ast.Subscript)):
        return {root_of_field(node)} - {None}
    parts = []
    if isinstance(node, ast.Call) and isinstance(node.func, ast.Attribute) and node.func.attr in ("items", "keys", "values"):
        parts = [node.func.value]
    elif isinstance(node, ast.Call) and ast.unparse(node.func) in ("enumerate", "zip", "reversed"):
        parts = node.args
    elif isinstance(node, (ast.IfExp, ast.BoolOp)):
        parts = node.values if isinstance(node, ast.BoolOp) else [node.body, node.orelse]
    return set().union(*[walked_roots(part) for part in parts])


def changed_roots(node):
    """The names of the objects of which a field is changed in a statement, or in what stands in it."""
    found = set()
    for part in ast.walk(node):
        if isinstance(part, ast.Call) and isinstance(part.func, ast.Attribute) and part.func.attr in MODIFIERS:
            found.add(root_of_field(part.func.value))
        if isinstance(part, (ast.Attribute, ast.Subscript)) and isinstance(part.ctx, (ast.Store, ast.Del)):
            found.add(root_of_field(part))
    return found - {None}


def changed_walks(tree):
    """The lines of the loops and comprehensions that walk a field of an object of which they change one."""
    found = []
    for node in ast.walk(tree):
        if isinstance(node, ast.For):
            walks, body = [node.iter], node.body + node.orelse
        elif isinstance(node, (ast.ListComp, ast.DictComp, ast.SetComp, ast.GeneratorExp)):
            walks, body = [one.iter for one in node.generators], [node]
        else:
            continue
        walked = set().union(*[walked_roots(walk) for walk in walks])
        if walked & set().union(*[changed_roots(part) for part in body]):
            found.append(node.lineno)
    return found


def loose_reversals(tree):
    """The lines of the calls of `reversed` over what can be an object of a class with items."""
    found = []
    for node in ast.walk(tree):
        if isinstance(node, ast.Call) and ast.unparse(node.func) == "reversed":
            over = node.args[0]
            is_made = isinstance(over, ast.Call) and ast.unparse(over.func) in ("list", "tuple", "sorted", "range")
            if not is_made and not isinstance(over, (ast.Constant, ast.List, ast.Tuple)):
                found.append(node.lineno)
    return found


def is_new(value):
    """Whether an expression makes a list or a dict."""
    made = isinstance(value, ast.Call) and ast.unparse(value.func) in ("list", "dict", "sorted")
    return made or isinstance(value, (ast.List, ast.Dict, ast.ListComp, ast.DictComp))


def changes_of(node, classes):
    """What a function changes that it has not made itself, as the rule for operators and properties tells it."""
    given, found = {}, []
    for part in ast.walk(node):
        for target in part.targets if isinstance(part, ast.Assign) else ():
            for one in ast.walk(target):
                if isinstance(one, ast.Name) and isinstance(one.ctx, ast.Store):
                    given.setdefault(one.id, []).append(part.value if one is target else None)
    lists = [name for name, values in given.items() if all([is_new(value) for value in values])]
    objects = [name for name, values in given.items()
               if all([isinstance(value, ast.Call) and ast.unparse(value.func) in classes for value in values])]
    # The names of what is new, and has nothing but what is new in it.
    nests = [name for name in lists if all([ast.unparse(value) == "{}" for value in given[name]])
             and all([is_new(part.value) for part in ast.walk(node) if isinstance(part, ast.Assign)
                      and isinstance(part.targets[0], ast.Subscript) and ast.unparse(part.targets[0].value) == name])]
    for part in ast.walk(node):
        changed = None
        if isinstance(part, (ast.Attribute, ast.Subscript)) and isinstance(part.ctx, (ast.Store, ast.Del)):
            changed = part.value
            fine = objects + (["self"] if node.name == "__init__" else []) if isinstance(part, ast.Attribute) else lists
        elif isinstance(part, ast.Call) and isinstance(part.func, ast.Attribute) and part.func.attr in MODIFIERS:
            changed, fine = part.func.value, lists
            if isinstance(changed, ast.Subscript):
                changed, fine = changed.value, nests
            elif isinstance(changed, ast.Call) and isinstance(changed.func, ast.Attribute) and changed.func.attr == "setdefault":
                changed, fine = changed.func.value, nests
        if changed is not None and ast.unparse(changed) not in fine:
            found.append(ast.unparse(part))
    return found


def called_by(node, classes):
    """The names of the functions, the methods and the classes that a function may call."""
    found = []
    for part in ast.walk(node):
        if isinstance(part, ast.Call):
            name = part.func.attr if isinstance(part.func, ast.Attribute) else ast.unparse(part.func)
            found.append("%s.__init__" % name if name in classes else name)
        if isinstance(part, ast.Attribute) and isinstance(part.ctx, ast.Load):
            found.append(part.attr)
    return found


def names_of(tree):
    """What a file binds at module level."""
    found = []
    for node in tree.body:
        if isinstance(node, (ast.FunctionDef, ast.ClassDef)):
            found.append(node.name)
        elif isinstance(node, ast.Assign):
            found.append(node.targets[0].id)
    return found


class Form(Case):
    def test_files(self):
        for path in ROOT.rglob("*"):
            if "__pycache__" in path.parts:
                continue
            self.assertTrue(path.is_dir() or path.suffix == ".py", path)
            self.assertRegex(path.name, "^([a-z][a-z0-9_]*([.]py)?|__init__[.]py)$")
            if path.is_dir():
                self.assertTrue((path / "__init__.py").exists(), path)
            self.assertFalse(path.stem in vars(builtins) or path.stem.startswith("test") or path.stem in BAD_WORDS)
        self.assertLessEqual(len(FILES), 100)

    def test_characters_and_sizes(self):
        for path in FILES:
            text = path.read_text()
            self.assertTrue(all([" " <= sign <= "~" or sign == "\n" for sign in text]), path)
            lines = text.splitlines()
            self.assertLessEqual(len(lines), 399, path)
            self.assertLessEqual(max([len(line) for line in lines]), 120, path)
        for path, node in all_nodes(ast.FunctionDef):
            self.assertLessEqual(node.end_lineno - node.lineno + 1, 40, (path, node.name))

    def test_statements_and_expressions(self):
        for path, node in all_nodes(ast.AST):
            kind = type(node).__name__
            where = (path, kind, getattr(node, "lineno", None))
            if kind != "Set" and kind != "SetComp":
                self.assertIn(kind, NODES, where)
            if isinstance(node, ast.Constant):
                self.assertIn(type(node.value).__name__, ("int", "str", "bool", "NoneType"), where)
            if isinstance(node, ast.FunctionDef):
                for mark in node.decorator_list:
                    self.assertIn(ast.unparse(mark), ("property", "classmethod"), where)
                if node.name.startswith("__"):
                    self.assertIn(node.name, DUNDERS, where)
            if isinstance(node, ast.BinOp) and isinstance(node.op, ast.Pow):
                self.assertTrue(isinstance(node.right, ast.Constant) and node.right.value <= 64, where)
            if isinstance(node, ast.Compare):
                for sign, right in zip(node.ops, node.comparators):
                    if isinstance(sign, (ast.Is, ast.IsNot)):
                        self.assertIn(ast.unparse(right), ("None", "True", "False"), where)

    def test_module_level(self):
        for path, tree in trees():
            self.assertTrue(ast.get_docstring(tree), path)
            names = names_of(tree)
            self.assertEqual(len(names), len(set(names)), path)
            for node in tree.body[1:]:
                self.assertIsInstance(node, (ast.ImportFrom, ast.FunctionDef, ast.ClassDef, ast.Assign), path)
                if isinstance(node, ast.Assign):
                    self.assertEqual(len(node.targets), 1)
                    for part in ast.walk(node.value):
                        self.assertIsInstance(part, (ast.Constant, ast.Tuple, ast.Dict, ast.Name, ast.Load, ast.BinOp, ast.Pow,
                                                     ast.Mult))
                        if isinstance(part, ast.Name):
                            ahead = [one.name for one in tree.body if isinstance(one, ast.FunctionDef)
                                     and one.lineno < node.lineno]
                            self.assertIn(part.id, ahead, path)
            for node in ast.walk(tree):
                if isinstance(node, (ast.FunctionDef, ast.ClassDef)) and not node.name.startswith("__"):
                    self.assertTrue(ast.get_docstring(node), (path, node.name))

    def test_imports(self):
        needs = {}
        bound = {path: names_of(tree) for path, tree in trees()}
        for path, node in all_nodes(ast.ImportFrom):
            self.assertEqual(node.level, 0)
            if node.module in LIBRARY:
                self.assertEqual([alias.asname for alias in node.names if alias.name in LIBRARY[node.module]],
                                 [None] * len(node.names))
                continue
            source = ROOT.parent.joinpath(*node.module.split(".")).with_suffix(".py")
            self.assertIn(source, FILES, node.module)
            for alias in node.names:
                self.assertIsNone(alias.asname)
                self.assertIn(alias.name, bound[source], (path, alias.name))
            needs.setdefault(path, []).append(source)
        self.assertEqual(all_nodes(ast.Import), [])
        done = set()
        while len(done) < len(FILES):
            ready = [path for path in FILES if path not in done and set(needs.get(path, [])) <= done]
            self.assertTrue(ready, "files import from each other")
            done.update(ready)

    def test_names(self):
        for path, tree in trees():
            imported = [alias.name for node in tree.body if isinstance(node, ast.ImportFrom) for alias in node.names]
            classes = [node.name for node in tree.body if isinstance(node, ast.ClassDef)]
            known = set(imported) | set(names_of(tree)) | BUILTINS
            read = [node.id for node in ast.walk(tree) if isinstance(node, ast.Name) and isinstance(node.ctx, ast.Load)]
            self.assertEqual([name for name in imported if name not in read], [], path)
            self.assertNotIn("_", read)
            for function in [node for node in ast.walk(tree) if isinstance(node, ast.FunctionDef)]:
                own = set([arg.arg for arg in ast.walk(function) if isinstance(arg, ast.arg)]) | set(
                    [node.id for node in ast.walk(function) if isinstance(node, ast.Name)
                     and isinstance(node.ctx, ast.Store)]) | set(
                    [node.name for node in ast.walk(function) if isinstance(node, ast.ExceptHandler) and node.name])
                self.assertEqual(own & (set(imported) | set(classes) | set(dir(builtins))) - {"_"}, set(), path)
                self.assertEqual(own & BAD_NAMES, set(), path)
                for node in ast.walk(function):
                    if isinstance(node, ast.Name) and isinstance(node.ctx, ast.Load):
                        self.assertIn(node.id, known | own, (path, node.lineno))

    def test_methods(self):
        own = set([node.name for _, node in all_nodes(ast.FunctionDef)])
        stored = set([node.attr for _, node in all_nodes(ast.Attribute) if isinstance(node.ctx, ast.Store)])
        for path, node in all_nodes(ast.Call):
            if isinstance(node.func, ast.Attribute):
                self.assertIn(node.func.attr, own | BUILTIN_METHODS, (path, node.lineno))
        for name in own | stored:
            self.assertFalse(name in BAD_NAMES or name in vars(builtins), name)
        for path, tree in trees():
            for made in [node for node in tree.body if isinstance(node, ast.ClassDef)]:
                methods = [node.name for node in made.body if isinstance(node, ast.FunctionDef)]
                self.assertEqual(len(methods), len(set(methods)), made.name)
                attributes = [node.attr for node in ast.walk(made) if isinstance(node, ast.Attribute)
                              and isinstance(node.ctx, ast.Store)]
                self.assertEqual(set(methods) & set(attributes), set(), made.name)

    def test_sets_and_generators(self):
        makers = set([node.name for _, node in all_nodes(ast.FunctionDef)
                      if any([isinstance(part, (ast.Yield, ast.YieldFrom)) for part in ast.walk(node)])])
        for path, tree in trees():
            fine = set()
            for node in ast.walk(tree):
                if isinstance(node, ast.Call) and ast.unparse(node.func) in ("sorted", "len"):
                    fine.update(map(id, node.args))
                if isinstance(node, (ast.For, ast.comprehension)):
                    fine.add(id(node.iter))
                if isinstance(node, ast.YieldFrom):
                    fine.add(id(node.value))
            for node in ast.walk(tree):
                name = ast.unparse(node.func).split(".")[-1] if isinstance(node, ast.Call) else ""
                if isinstance(node, (ast.Set, ast.SetComp)) or name == "set" or name in makers:
                    self.assertIn(id(node), fine, (path, node.lineno))
                if name in makers:
                    for arg in node.args + [node.func]:
                        self.assertRegex(ast.unparse(arg), "^[A-Za-z_.]+$", (path, node.lineno))

    def test_iterations_without_change(self):
        for path, node in all_nodes(ast.For):
            gone_over = ast.unparse(node.iter)
            for part in ast.walk(node):
                if isinstance(part, ast.Call) and isinstance(part.func, ast.Attribute):
                    if part.func.attr in ("append", "extend", "pop", "setdefault", "update", "clear", "remove", "insert"):
                        changed = ast.unparse(part.func.value)
                        self.assertIsNone(re.search(r"(?<![\w.])%s(?![\w])" % re.escape(changed), gone_over),
                                          (path, node.lineno))

    def test_walks_of_fields_without_change_of_the_object(self):
        for path, tree in trees():
            self.assertEqual(changed_walks(tree), [], path)
        for wrong in ("for a in self.rows:\n    self.below[a].append(1)", "for a, b in self.rows.items():\n    self.many = b",
                      "for a in enumerate(box.rows):\n    if a:\n        box.found[a] = 1", "for a in box.rows[1]:\n    del box.b[a]",
                      "for a in (box.x if c else y):\n    box.x.pop()", "[box.found.append(a) for a in box.rows]"):
            self.assertEqual(changed_walks(ast.parse(wrong)), [1], wrong)
        for right in ("for a in list(self.rows):\n    self.below[a].append(1)", "for a in rows:\n    self.rows[a] = 1",
                      "for a in box.rows:\n    self.rows[a] = 1", "for a in self.rows:\n    found.append(self.below[a])"):
            self.assertEqual(changed_walks(ast.parse(right)), [], right)

    def test_reversals_go_over_what_is_made_there(self):
        has_items = [node for _, node in all_nodes(ast.FunctionDef) if node.name == "__getitem__"]
        self.assertTrue(has_items)
        for path, tree in trees():
            self.assertEqual(loose_reversals(tree), [], path)
        for wrong in ("for a in reversed(rows):\n    pass", "{1 << at: key for at, key in enumerate(reversed(keys))}",
                      "found = list(reversed(self.rows))", "for a in reversed(rows[1:]):\n    pass",
                      "for a in reversed([one for one in rows] if rows else rows):\n    pass"):
            self.assertEqual(loose_reversals(ast.parse(wrong)), [1], wrong)
        for right in ("for a in reversed(list(rows)):\n    pass", "found = list(reversed(range(4)))",
                      "for a in reversed(sorted(rows)):\n    pass", "for a in reversed((1, 2)):\n    pass"):
            self.assertEqual(loose_reversals(ast.parse(right)), [], right)

    def test_words(self):
        for path in FILES:
            text = path.read_text()
            for word in ("(type)", "Meta", "metaclass=", "_wall", "_WallAttr", "dataclass", "contextmanager"):
                self.assertNotIn(word, text, path)
            self.assertEqual(set(re.findall(r"\w+", text)) & BAD_WORDS, set(), path)
        for path, node in all_nodes(ast.Constant):
            if isinstance(node.value, str):
                self.assertNotIn("%", node.value, path)
                self.assertFalse(node.value.endswith(("._", ".__")) or "__" in node.value, path)

    def test_errors(self):
        for path, node in all_nodes(ast.Raise):
            self.assertTrue(isinstance(node.exc, ast.Call) and isinstance(node.exc.func, ast.Name), path)
            self.assertIsNone(node.cause)
        own = [node.name for _, node in all_nodes(ast.ClassDef)]
        for path, node in all_nodes(ast.ExceptHandler):
            names = node.type.elts if isinstance(node.type, ast.Tuple) else [node.type]
            self.assertTrue(all([isinstance(name, ast.Name) and name.id in own for name in names]), (path, node.lineno))

    def test_double_underscore_methods(self):
        for path, node in all_nodes(ast.FunctionDef):
            answers = [part.value for part in ast.walk(node) if isinstance(part, ast.Return)]
            for answer in answers:
                where = (path, node.name, answer.lineno if answer else None)
                if node.name == "__len__":
                    self.assertRegex(ast.unparse(answer), r"^(len[(].*[)]|\d+)$", where)
                if node.name == "__str__":
                    is_text = isinstance(answer, ast.JoinedStr) or isinstance(answer, ast.Constant)
                    self.assertTrue(is_text or re.match(r"(str|repr)[(]|'[^']*'[.]join[(]", ast.unparse(answer)), where)
                if node.name == "__iter__":
                    self.assertRegex(ast.unparse(answer), r"^iter[(]self[.][a-z_]+([.][a-z_]+)?[)]$", where)
            if node.name == "__init__":
                self.assertEqual(answers, [], path)
            if node.name in ("__str__", "__len__"):
                self.assertIsInstance(node.body[-1], ast.Return, path)

    def test_names_of_properties(self):
        """A property has no name that another class stores, or that a method has."""
        properties, methods = set(), set()
        for _, node in all_nodes(ast.FunctionDef):
            is_property = "property" in [ast.unparse(mark) for mark in node.decorator_list]
            (properties if is_property else methods).add(node.name)
        stored = set([node.attr for _, node in all_nodes(ast.Attribute) if isinstance(node.ctx, ast.Store)])
        self.assertEqual(properties & (methods | stored), set())
        self.assertEqual(properties & BUILTIN_METHODS, set())

    def test_names_of_attributes(self):
        """No attribute has the name of a method; the document itself gives one to `Lacking`."""
        own = set([node.name for _, made in all_nodes(ast.ClassDef) for node in made.body if isinstance(node, ast.FunctionDef)])
        stored = set([node.attr for _, node in all_nodes(ast.Attribute) if isinstance(node.ctx, ast.Store)])
        self.assertEqual(stored & (own | BUILTIN_METHODS), {"lacks"})
        read = set([node.attr for _, node in all_nodes(ast.Attribute) if isinstance(node.ctx, ast.Load)])
        self.assertEqual(read - stored - own - BUILTIN_METHODS, set())

    def test_exits_only_give_back(self):
        """What `with` runs behind its block only gives back what was kept."""
        for path, node in all_nodes(ast.FunctionDef):
            if node.name == "__exit__":
                self.assertEqual([ast.unparse(arg) for arg in node.args.args[1:]], ["kind", "value", "trace"])
                self.assertRegex(ast.unparse(node.body[0]), r"^[a-z]+ = self[.][a-z_]+$")
                for row in node.body[1:]:
                    self.assertRegex(ast.unparse(row), r"^[a-z]+[.][a-z_]+ = self[.][a-z_]+$")
        for path, node in all_nodes(ast.With):
            self.assertIsInstance(node.items[0].context_expr, ast.Call, path)

    def test_views_are_iterated(self):
        """Items, keys and values of dicts stand where something goes over them."""
        for path, tree in trees():
            fine = set()
            for node in ast.walk(tree):
                if isinstance(node, (ast.For, ast.comprehension)):
                    fine.add(id(node.iter))
                if isinstance(node, ast.Call) and ast.unparse(node.func) in ("list", "tuple", "dict", "sorted", "sum", "any", "all", "enumerate", "zip"):
                    fine.update([id(arg) for arg in node.args[:1]])
                # Alone, or beside a default.
                if isinstance(node, ast.Call) and ast.unparse(node.func) in ("min", "max") and len(node.args) == 1:
                    fine.add(id(node.args[0]))
            for node in ast.walk(tree):
                if isinstance(node, ast.Call) and isinstance(node.func, ast.Attribute) and node.func.attr in ("items", "keys", "values"):
                    self.assertIn(id(node), fine, (path, node.lineno))
                if isinstance(node, ast.Call) and ast.unparse(node.func) in ("zip", "enumerate", "reversed"):
                    self.assertIn(id(node), fine, (path, node.lineno))

    def test_properties_and_operators_change_nothing(self):
        """What they run directly stores no attribute and no item but those of a local dict that it creates."""
        for path, node in all_nodes(ast.FunctionDef):
            marks = [ast.unparse(mark) for mark in node.decorator_list]
            if "property" not in marks and (not node.name.startswith("__") or node.name in ("__init__", "__enter__", "__exit__")):
                continue
            made = [part.targets[0].id for part in ast.walk(node) if isinstance(part, ast.Assign)
                    and isinstance(part.targets[0], ast.Name)]
            for part in ast.walk(node):
                self.assertFalse(isinstance(part, ast.Attribute) and isinstance(part.ctx, ast.Store), (path, node.name))
                if isinstance(part, ast.Subscript) and isinstance(part.ctx, ast.Store):
                    self.assertIn(ast.unparse(part.value), made, (path, node.name))

    def test_what_properties_and_operators_run_changes_nothing(self):
        """All that they call, by its names, changes only what it has made itself."""
        classes = [node.name for _, node in all_nodes(ast.ClassDef)]
        bodies, waiting = {}, []
        for _, tree in trees():
            for node in tree.body:
                for one in node.body if isinstance(node, ast.ClassDef) else [node]:
                    if isinstance(one, ast.FunctionDef):
                        name = "%s.__init__" % node.name if one.name == "__init__" else one.name
                        bodies.setdefault(name, []).append(one)
                        is_property = "property" in [ast.unparse(mark) for mark in one.decorator_list]
                        if is_property or one.name.startswith("__") and one.name not in ("__init__", "__enter__", "__exit__"):
                            waiting.append(name)
        reached = set()
        while waiting:
            name = waiting.pop()
            if name in bodies and name not in reached:
                reached.add(name)
                for node in bodies[name]:
                    self.assertEqual(changes_of(node, classes), [], name)
                    waiting.extend(called_by(node, classes))
        self.assertTrue({"yard_of", "Yard.__init__", "Layout.__init__", "sure_amounts", "_children_of"} <= reached)
        for wrong in ("def f(a):\n    a.b = 1", "def f(a):\n    a.append(1)", "def f(a):\n    b = a\n    b[1] = 2", "def f(a):\n    b, c = {}, 1\n    b[c] = 2",
                      "def f(self):\n    self.many = 1", "def f(self):\n    b = self.copied()\n    b.many = 1", "def f(a):\n    b = {}\n    b[1] = a\n    b[1].append(2)"):
            self.assertEqual(len(changes_of(ast.parse(wrong).body[0], ["Box"])), 1, wrong)
        for right in ("def f(a):\n    b = Box(a)\n    b.many = 1", "def f(a):\n    b = list(a)\n    b.append(1)", "def __init__(self):\n    self.many = 1",
                      "def f(a):\n    b = {}\n    b[1] = []\n    b[1].append(2)", "def f(a):\n    b = {}\n    b.setdefault(a, []).append(2)"):
            self.assertEqual(changes_of(ast.parse(right).body[0], ["Box"]), [], right)
