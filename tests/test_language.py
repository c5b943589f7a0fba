"""The files of the package keep to the language rules, as far as a look at their syntax can tell.

Some checks are stricter than the rules: where the package has no need of a construct, it is simply not used.
"""

import ast
import builtins
import os
import re
import unittest

FOLDER = os.path.join(os.path.dirname(os.path.dirname(os.path.abspath(__file__))), "borderflow")

BUILTINS = """len range enumerate zip min max sum abs sorted reversed int str bool list tuple dict set isinstance ord
repr any all divmod Exception ValueError TypeError KeyError IndexError LookupError NotImplemented""".split()
METHODS = """append clear copy count endswith extend find get index insert isalnum isalpha isdigit islower isspace
isupper items join keys ljust lower lstrip partition pop remove replace reverse rfind rjust rpartition rsplit rstrip
setdefault split splitlines startswith strip update upper values zfill bit_length""".split()
DUNDERS = """__init__ __eq__ __repr__ __str__ __len__ __iter__ __add__ __sub__ __mul__ __pow__ __lshift__ __rshift__
__invert__ __getitem__ __contains__ __bool__ __neg__""".split()
LIBRARY = {"math": ("gcd", "lcm")}
BARRED = """type typing typing_extensions enum Enum IntEnum StrEnum Flag IntFlag Generic Protocol ABC ABCMeta namedtuple
NamedTuple TypedDict TYPE_CHECKING abstractmethod""".split()
BARRED_ANYWHERE = ("dataclass", "overload", "contextmanager", "(type)", "Meta", "metaclass=", "_wall", "_WallAttr")
BARRED_NAMES = """register mro elements open input law version_info with_traceback add_note attrgetter breakpoint
compile delattr dir eval exec exit gc getattr globals hasattr help id importlib license locals os quit setattr super
sys vars""".split()
STATEMENTS = (
    ast.Assign, ast.AugAssign, ast.If, ast.While, ast.For, ast.Return, ast.Break, ast.Continue, ast.Pass, ast.Raise,
    ast.Assert, ast.Delete, ast.Try, ast.Expr, ast.FunctionDef,
)
CHANGERS = """append clear extend insert pop remove reverse setdefault update add discard""".split()
AT_ONCE = ("range", "zip", "enumerate", "reversed")
TAKERS = ("list", "tuple", "dict", "sorted", "sum", "any", "all", "enumerate", "zip", "min", "max", "set")


def files():
    return sorted(os.listdir(FOLDER))


def source(name):
    with open(os.path.join(FOLDER, name), encoding="utf-8") as handle:
        return handle.read()


def tree_of(name):
    tree = ast.parse(source(name))
    for node in ast.walk(tree):
        for child in ast.iter_child_nodes(node):
            child.above = node
    return tree


def is_docstring(node):
    above = node.above
    return isinstance(above, ast.Expr) and getattr(above.above, "body", [None])[0] is above


def names_bound(function):
    arguments = function.args
    found = [each.arg for each in arguments.posonlyargs + arguments.args + arguments.kwonlyargs]
    found += [each.arg for each in (arguments.vararg, arguments.kwarg) if each is not None]
    for node in ast.walk(function):
        if isinstance(node, ast.Name) and isinstance(node.ctx, (ast.Store, ast.Del)):
            found.append(node.id)
        if isinstance(node, ast.FunctionDef) and node is not function:
            found.append(node.name)
        if isinstance(node, ast.Lambda):
            found += [each.arg for each in node.args.args]
    return found


def base_of(node):
    """The name that stands at the left end of items and attributes; what they are of, if it is no name."""
    while isinstance(node, (ast.Subscript, ast.Attribute)):
        node = node.value
    return getattr(node, "id", node)


def called_name(node):
    """The name of what is called, None for anything but a call."""
    if not isinstance(node, ast.Call):
        return None
    return node.func.attr if isinstance(node.func, ast.Attribute) else node.func.id


def is_init_above(node):
    """Whether this is super().__init__, called by a statement of an __init__ by itself."""
    if not isinstance(node, ast.Attribute) or node.attr != "__init__" or not isinstance(node.value, ast.Call):
        return False
    if getattr(node.value.func, "id", None) != "super" or node.value.args or node.value.keywords:
        return False
    statement = node.above.above
    return isinstance(statement, ast.Expr) and getattr(statement.above, "name", None) == "__init__"


def is_plainly_new(node):
    if isinstance(node, ast.Call):
        return isinstance(node.func, ast.Name) and node.func.id in ("list", "dict", "sorted", "set")
    if isinstance(node, ast.Subscript):
        return isinstance(node.slice, ast.Slice)
    return isinstance(node, (ast.List, ast.Dict, ast.ListComp, ast.DictComp))


class Language(unittest.TestCase):
    def setUp(self):
        self.trees = {name: tree_of(name) for name in files() if name.endswith(".py")}

    def nodes(self, kind):
        for name, tree in self.trees.items():
            for node in ast.walk(tree):
                if isinstance(node, kind):
                    yield f"{name}:{getattr(node, 'lineno', 0)}", node

    def test_files(self):
        for name in files():
            if name == "__pycache__":
                continue
            self.assertRegex(name, r"^([a-z][a-z0-9_]*|__init__)\.py$")
            text = source(name)
            self.assertRegex(text, r"\A[ -~\n]*\Z", name)
            self.assertLessEqual(text.count("\n"), 399, name)
            for line in text.split("\n"):
                self.assertLessEqual(len(line), 120, (name, line))
            for word in BARRED_ANYWHERE:
                self.assertNotIn(word, text, name)

    def test_module_level(self):
        for name, tree in self.trees.items():
            bound = []
            for at, node in enumerate(tree.body):
                if at == 0:
                    self.assertIsInstance(node, ast.Expr, name)
                elif isinstance(node, ast.ImportFrom):
                    bound += [each.name for each in node.names]
                elif isinstance(node, (ast.FunctionDef, ast.ClassDef)):
                    bound.append(node.name)
                else:
                    self.assertIsInstance(node, ast.Assign, name)
                    self.assertEqual(len(node.targets), 1)
                    self.assertRegex(node.targets[0].id, r"^_?[A-Z]")
                    bound.append(node.targets[0].id)
                    ast.literal_eval(node.value)
            self.assertEqual(len(bound), len(set(bound)), name)
            for each in bound:
                self.assertFalse(hasattr(builtins, each), (name, each))

    def test_imports(self):
        defined = {}
        needs = {}
        for name, tree in self.trees.items():
            defined[name] = [node.name for node in tree.body if isinstance(node, (ast.FunctionDef, ast.ClassDef))]
            defined[name] += [node.targets[0].id for node in tree.body if isinstance(node, ast.Assign)]
        for name, tree in self.trees.items():
            needs[name] = []
            used = {node.id for node in ast.walk(tree) if isinstance(node, ast.Name)}
            for node in ast.walk(tree):
                self.assertNotIsInstance(node, ast.Import, name)
                if not isinstance(node, ast.ImportFrom):
                    continue
                self.assertIn(node, tree.body)
                self.assertEqual(node.level, 0)
                for each in node.names:
                    self.assertIsNone(each.asname)
                    self.assertIn(each.name, used, f"{name} does not use {each.name}")
                    if node.module in LIBRARY:
                        self.assertIn(each.name, LIBRARY[node.module])
                        continue
                    package, file = node.module.split(".")
                    self.assertEqual(package, "borderflow")
                    self.assertIn(each.name, defined[file + ".py"], name)
                    needs[name].append(file + ".py")
        while needs:
            free = [name for name in needs if not any(need in needs for need in needs[name])]
            self.assertNotEqual(free, [], f"files import from each other: {needs}")
            needs = {name: needs[name] for name in needs if name not in free}

    def test_functions(self):
        for where, node in self.nodes(ast.FunctionDef):
            first = min([node.lineno] + [each.lineno for each in node.decorator_list])
            self.assertLessEqual(node.end_lineno - first + 1, 40, where)
            for each in node.decorator_list:
                self.assertIn(each.id, ("staticmethod", "property"), where)
            self.assertIsNone(node.returns)
            for inner in ast.walk(node):
                if isinstance(inner, ast.arg):
                    self.assertIsNone(inner.annotation, where)
                if isinstance(inner, ast.stmt):
                    self.assertIsInstance(inner, STATEMENTS, f"{where} {inner.lineno}")

    def test_names(self):
        for name, tree in self.trees.items():
            taken = [node.name for node in tree.body if isinstance(node, ast.ClassDef)]
            for node in tree.body:
                if isinstance(node, ast.ImportFrom):
                    taken += [each.name for each in node.names]
            for node in ast.walk(tree):
                if isinstance(node, ast.FunctionDef):
                    for each in names_bound(node):
                        self.assertNotIn(each, taken, (name, node.name))
                        self.assertNotIn(each, BARRED_NAMES, (name, node.name))
                        self.assertFalse(hasattr(builtins, each), (name, node.name, each))
                        self.assertRegex(each, r"^(_|_?[a-z][a-z0-9_]*)$", (name, node.name))
                if isinstance(node, ast.Attribute) and not is_init_above(node):
                    self.assertFalse(node.attr.startswith("__"), (name, node.attr))

    def test_builtins(self):
        for where, node in self.nodes(ast.Name):
            if node.id == "super":
                self.assertTrue(is_init_above(node.above.above), where)
            elif hasattr(builtins, node.id) and not isinstance(node.above, ast.FunctionDef):
                self.assertIn(node.id, BUILTINS, where)

    def test_methods_called(self):
        own = {node.name for _, node in self.nodes(ast.FunctionDef)}
        for where, node in self.nodes(ast.Call):
            if isinstance(node.func, ast.Attribute):
                self.assertTrue(node.func.attr in METHODS or node.func.attr in own, (where, node.func.attr))
                self.assertNotIn(node.func.attr, ("sort",), where)

    def test_generators(self):
        functions = [node for _, node in self.nodes(ast.FunctionDef)]
        generators = {
            node.name for node in functions
            if any(isinstance(inner, (ast.Yield, ast.YieldFrom)) for inner in ast.walk(node))
        }
        for name in generators:
            self.assertEqual([node.name for node in functions].count(name), 1, name)
            self.assertNotIn(name, METHODS)

    def test_classes(self):
        attributes = {}
        methods = {}
        for where, node in self.nodes(ast.ClassDef):
            self.assertEqual(node.decorator_list, [], where)
            methods[node.name] = [each.name for each in node.body if isinstance(each, ast.FunctionDef)]
            self.assertEqual(len(methods[node.name]), len(set(methods[node.name])), where)
            for each in methods[node.name]:
                if each.startswith("__"):
                    self.assertIn(each, DUNDERS, where)
            attributes[node.name] = {
                each.attr for each in ast.walk(node)
                if isinstance(each, ast.Attribute) and isinstance(each.ctx, ast.Store)
            }
            self.assertEqual(attributes[node.name] & set(methods[node.name]), set(), where)
            if "__getitem__" in methods[node.name]:
                self.assertIn("__iter__", methods[node.name], where)
        for every in list(attributes.values()):
            self.assertEqual(every & {"items", "keys", "values", "pop", "update", "append", "args", "sort"}, set())

    def test_texts_of_objects(self):
        for where, node in self.nodes(ast.FunctionDef):
            if node.name in ("__repr__", "__str__"):
                self.assertIsInstance(node.body[-1], ast.Return, where)
                for each in ast.walk(node):
                    if isinstance(each, ast.Return):
                        plain = isinstance(each.value, ast.JoinedStr)
                        self.assertTrue(plain or each.value.func.id in ("str", "repr"), where)

    def test_strings(self):
        for where, node in self.nodes(ast.Constant):
            self.assertNotIsInstance(node.value, (float, complex, bytes), where)
            if isinstance(node.value, str):
                self.assertNotIn("%", node.value, where)
                self.assertFalse(node.value.endswith(("._", ".__")), where)
                if not is_docstring(node):
                    for word in re.findall(r"\w+", node.value):
                        self.assertNotIn(word, BARRED[1:], where)
        for name in self.trees:
            code = "\n".join(line.split("#")[0] for line in source(name).split("\n"))
            code = re.sub(r'"""[^"]*"""', "", code)
            for word in re.findall(r"\w+", code):
                self.assertNotIn(word, BARRED, name)
            self.assertEqual(re.findall(r"\\[^n\\\"]", code), [], name)

    def test_expressions(self):
        for where, node in self.nodes((ast.GeneratorExp, ast.Set, ast.Await, ast.NamedExpr)):
            self.fail(f"{where} {node}")
        for where, node in self.nodes(ast.BinOp):
            self.assertNotIsInstance(node.op, (ast.Div, ast.MatMult), where)
            if isinstance(node.op, ast.Pow):
                self.assertIsInstance(node.right, ast.Constant, where)
        for where, node in self.nodes(ast.Compare):
            for sign, other in zip(node.ops, node.comparators):
                if isinstance(sign, (ast.Is, ast.IsNot)):
                    self.assertIsNone(other.value, where)
        for where, node in self.nodes(ast.AugAssign):
            self.fail(f"{where} is no plain assignment")
        for where, node in self.nodes(ast.SetComp):
            self.assertIn(node.above.func.id, ("sorted", "len"), where)

    def test_changed_lists(self):
        # what a function changes in place is plainly its own: beside an operator * a product is not
        for where, node in self.nodes(ast.FunctionDef):
            changed = set()
            for each in ast.walk(node):
                if isinstance(each, ast.Subscript) and isinstance(each.ctx, (ast.Store, ast.Del)):
                    changed.add(base_of(each))
                if isinstance(each, ast.Call) and isinstance(each.func, ast.Attribute) and each.func.attr in CHANGERS:
                    changed.add(base_of(each.func))
            given = {each.arg for each in ast.walk(node) if isinstance(each, ast.arg)}
            self.assertEqual(changed & given, set(), where)
            for each in ast.walk(node):
                if isinstance(each, ast.Name) and isinstance(each.ctx, ast.Store) and each.id in changed:
                    self.assertIsInstance(each.above, ast.Assign, f"{where} {each.id}")
                    self.assertTrue(is_plainly_new(each.above.value), f"{where} {each.id}")

    def test_dicts_of_modules_are_only_read(self):
        dicts = {
            node.targets[0].id for tree in self.trees.values() for node in tree.body
            if isinstance(node, ast.Assign) and isinstance(node.value, (ast.Dict, ast.List))
        }
        self.assertIn("LIMITS", dicts)
        for where, node in self.nodes(ast.Name):
            if node.id not in dicts or node.above in self.trees[where.split(":")[0]].body:
                continue
            above = node.above
            read = isinstance(above, ast.Subscript) and above.value is node and isinstance(above.ctx, ast.Load)
            read = read or isinstance(above, ast.Compare) and isinstance(above.ops[-1], (ast.In, ast.NotIn))
            read = read or isinstance(above, ast.Attribute) and above.attr == "get"
            read = read or isinstance(above, (ast.For, ast.comprehension)) and above.iter is node
            self.assertTrue(read, where)

    def test_iterated_at_once(self):
        for where, node in self.nodes(ast.Call):
            lazy = isinstance(node.func, ast.Name) and node.func.id in AT_ONCE
            lazy = lazy or isinstance(node.func, ast.Attribute) and node.func.attr in ("items", "keys", "values")
            if not lazy:
                continue
            above = node.above
            looped = isinstance(above, (ast.For, ast.comprehension)) and above.iter is node
            taken = isinstance(above, ast.Call) and isinstance(above.func, ast.Name) and above.func.id in TAKERS
            self.assertTrue(looped or taken, where)

    def test_operators_and_properties_change_nothing(self):
        functions = {}
        classes = {node.name: node for _, node in self.nodes(ast.ClassDef)}
        for where, node in self.nodes(ast.FunctionDef):
            functions.setdefault(node.name, []).append((where, node))
        reached = [name for name in functions if name.startswith("__") and name != "__init__"]
        for _, node in self.nodes(ast.FunctionDef):
            if [each for each in node.decorator_list if each.id == "property"]:
                reached.append(node.name)
        for name in reached:
            for where, node in functions[name]:
                self.changes_nothing(where, node, classes)
                for each in ast.walk(node):
                    called = called_name(each)
                    called = "__init__" if called in classes else called
                    if called in functions and called not in reached:
                        reached.append(called)
        self.assertIn("least_exchange", reached)
        self.assertNotIn("tick", reached)

    def changes_nothing(self, where, node, classes):
        """Checks that a function assigns attributes of what it created alone, or of its own object in an __init__."""
        created = [node.args.args[0].arg] if node.name == "__init__" else []
        for each in ast.walk(node):
            if isinstance(each, ast.Assign) and called_name(each.value) in classes:
                created += [target.id for target in each.targets if isinstance(target, ast.Name)]
        given = {each.arg for each in ast.walk(node) if isinstance(each, ast.arg)}
        for each in ast.walk(node):
            if isinstance(each, ast.Attribute) and isinstance(each.ctx, (ast.Store, ast.Del)):
                self.assertIn(base_of(each), created, f"{where} {node.name}")
            if isinstance(each, ast.Call) and isinstance(each.func, ast.Name):
                self.assertNotIn(each.func.id, given, f"{where} {node.name}")

    def test_stars_in_calls(self):
        for where, node in self.nodes(ast.Call):
            for each in node.args:
                if isinstance(each, ast.Starred):
                    for arg in node.args:
                        arg = arg.value if isinstance(arg, (ast.Starred, ast.Attribute)) else arg
                        self.assertIsInstance(arg, (ast.Name, ast.Constant), where)
            for each in node.keywords:
                if each.arg is None:
                    self.assertIsInstance(each.value, ast.Name, where)
                    self.assertEqual(len(node.keywords), 1, where)

    def test_methods_that_only_tell(self):
        for where, node in self.nodes(ast.FunctionDef):
            if node.name in ("__eq__", "__repr__", "__str__", "__len__", "__bool__"):
                for each in ast.walk(node):
                    stores = isinstance(getattr(each, "ctx", None), (ast.Store, ast.Del))
                    self.assertFalse(stores and not isinstance(each.above, ast.comprehension), where)

    def test_raises(self):
        for where, node in self.nodes(ast.Raise):
            self.assertIsInstance(node.exc, ast.Call, where)
            self.assertIsInstance(node.exc.func, ast.Name, where)
            self.assertEqual(node.exc.keywords, [], where)
        for where, node in self.nodes(ast.ExceptHandler):
            caught = node.type.elts if isinstance(node.type, ast.Tuple) else [node.type]
            for each in caught:
                self.assertIn(each.id, ("BorderError", "Missing"), where)
            for each in ast.walk(node):
                if isinstance(each, ast.Name) and each.id == node.name:
                    self.assertIsInstance(each.above, ast.Raise, where)
                    self.assertIs(each.above.cause, each, where)


if __name__ == "__main__":
    unittest.main()
