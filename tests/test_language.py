"""The rules of the language that can be read off the files of the package, as far as it uses what they speak of."""

import ast
import builtins
import os
import re
import unittest
import warnings

FOLDER = os.path.join(os.path.dirname(os.path.dirname(os.path.abspath(__file__))), "oneforone")
LIBRARY = {"heapq": ("heappush", "heappop", "heapify"), "math": ("gcd", "lcm", "isqrt", "comb", "perm", "factorial"),
           "itertools": ("product", "combinations", "permutations")}
MIXERS = LIBRARY["itertools"]
BUILTINS = """len range enumerate zip min max sum abs sorted reversed int str bool list tuple dict set isinstance ord repr
any all divmod ValueError KeyError ZeroDivisionError""".split()
METHODS = """append clear copy count endswith extend find get index insert isalnum isalpha isdigit islower isspace isupper
items join keys ljust lower lstrip partition pop remove replace reverse rfind rjust rpartition rsplit rstrip setdefault
split splitlines startswith strip update upper values zfill bit_length isascii isdecimal removeprefix
removesuffix""".split()
DOUBLE = "__init__ __eq__ __repr__ __str__ __len__ __call__".split()
NEVER = "register mro elements open input law version_info with_traceback add_note".split()
NO_NAMES = """attrgetter breakpoint builtins compile copyright credits delattr dir eval exec exit gc getattr globals
hasattr help id importlib license locals methodcaller os quit setattr super type vars sys map""".split()
NO_WORDS = """type typing typing_extensions enum Enum IntEnum StrEnum Flag IntFlag Generic Protocol ABC ABCMeta
namedtuple NamedTuple TypedDict TYPE_CHECKING abstractmethod""".split()
NO_ATTRIBUTES = """items keys values pop update append clear extend insert remove reverse setdefault sort args encode decode hex
fromhex format""".split()
NODES = """Module Expr Constant Import ImportFrom alias FunctionDef arguments arg Return Assign AugAssign If While For
Break Continue Pass Raise Try ExceptHandler ClassDef Name Load Store Del Delete Attribute Call keyword Subscript Slice
List Tuple Dict ListComp DictComp comprehension BinOp UnaryOp BoolOp Compare IfExp Starred JoinedStr FormattedValue
Lambda Add Sub Mult FloorDiv Mod Pow LShift RShift BitOr BitAnd BitXor USub Not And Or Eq NotEq Lt LtE Gt GtE Is IsNot
In NotIn""".split()
ONCE = ("zip", "enumerate", "reversed", "range", "items", "keys", "values")
TAKERS = ("list", "tuple", "dict", "sorted", "sum", "any", "all", "enumerate", "zip", "min", "max")


def files():
    return sorted(name for name in os.listdir(FOLDER) if name != "__pycache__")


def read(name):
    with open(os.path.join(FOLDER, name), encoding="utf-8", newline="") as file:
        return file.read()


def trees():
    for name in files():
        tree = ast.parse(read(name))
        for node in ast.walk(tree):
            for child in ast.iter_child_nodes(node):
                child.parent = node
        yield name, tree


def nodes(*kinds):
    for name, tree in trees():
        for node in ast.walk(tree):
            if isinstance(node, kinds):
                yield name, node


def called(node):
    """The name that is called, of a function or of a method."""
    if not isinstance(node, ast.Call):
        return None
    return node.func.id if isinstance(node.func, ast.Name) else getattr(node.func, "attr", None)


def functions_of(tree):
    return [node for node in ast.walk(tree) if isinstance(node, ast.FunctionDef)]


def bound_in(function):
    """The parameters and local variables of a function, those of its comprehensions, too."""
    arguments = function.args
    names = [each.arg for each in arguments.args + arguments.kwonlyargs + arguments.posonlyargs]
    return names + [node.id for node in ast.walk(function) if isinstance(node, ast.Name) and isinstance(node.ctx, ast.Store)]


class Language(unittest.TestCase):
    def nothing(self, found):
        self.assertEqual(list(found), [])

    def test_files(self):
        self.assertIn("__init__.py", files())
        self.assertLessEqual(len(files()), 100)
        for name in files():
            self.assertRegex(name, r"^[a-z0-9_]+\.py$")
            text = read(name)
            self.assertRegex(text, r"^[ -~\n]*$")
            self.assertTrue(text.endswith("\n"))
            lines = text.split("\n")
            self.assertLessEqual(len(lines) - 1, 399, name)
            self.assertLessEqual(max(map(len, lines)), 120, name)
            self.assertNotRegex(text, r"_wall|_WallAttr|dataclass|overload|contextmanager")
            with warnings.catch_warnings():
                warnings.simplefilter("error")
                compile(text, name, "exec")

    def test_functions_are_short(self):
        for name, node in nodes(ast.FunctionDef):
            self.assertLessEqual(node.end_lineno - node.lineno + 1, 40, (name, node.name))

    def test_only_plain_parts_of_the_language(self):
        self.nothing((name, type(node).__name__, node.lineno) for name, node in nodes(ast.AST)
                     if type(node).__name__ not in NODES and hasattr(node, "lineno"))
        self.nothing((name, node.lineno) for name, node in nodes(ast.Constant) if isinstance(node.value, (float, complex)))
        self.nothing((name, node.name) for name, node in nodes(ast.FunctionDef, ast.ClassDef) if node.decorator_list)
        self.nothing((name, node.lineno) for name, node in nodes(ast.ClassDef, ast.FunctionDef)
                     if isinstance(node, ast.ClassDef) and not isinstance(node.parent, ast.Module))

    def test_module_level(self):
        for name, tree in trees():
            for at, node in enumerate(tree.body):
                docstring = at == 0 and isinstance(node, ast.Expr) and isinstance(node.value, ast.Constant)
                plain = isinstance(node, ast.Assign) and len(node.targets) == 1 and isinstance(node.targets[0], ast.Name)
                if plain:
                    self.nothing(each for each in ast.walk(node.value)
                                 if not isinstance(each, (ast.Constant, ast.Tuple, ast.Load)))
                self.assertTrue(docstring or plain or isinstance(node, (ast.ImportFrom, ast.FunctionDef, ast.ClassDef)))

    def test_imports(self):
        homes = {}
        needs = {}
        for name, tree in trees():
            homes[name[:-3]] = [node.name for node in tree.body if isinstance(node, (ast.FunctionDef, ast.ClassDef))]
        for name, tree in trees():
            own = set()
            needs[name[:-3]] = own
            told = []
            for node in ast.walk(tree):
                self.assertNotIsInstance(node, ast.Import)
                if not isinstance(node, ast.ImportFrom):
                    continue
                self.assertEqual(node.level, 0)
                self.assertTrue(all(each.asname is None for each in node.names))
                names = [each.name for each in node.names]
                told += names
                if node.module in LIBRARY:
                    self.assertTrue(set(names) <= set(LIBRARY[node.module]))
                    continue
                package, home = node.module.split(".")
                self.assertEqual(package, "oneforone")
                own.add(home)
                self.assertTrue(set(names) <= set(homes[home]), (name, names))
            used = {node.id for node in ast.walk(tree) if isinstance(node, ast.Name)}
            self.assertEqual(sorted(told), sorted(set(told)))
            self.assertTrue(set(told) <= used, (name, set(told) - used))
        for start in needs:
            reached, waiting = set(), list(needs[start])
            while waiting:
                home = waiting.pop()
                if home not in reached:
                    reached.add(home)
                    waiting.extend(needs[home])
            self.assertNotIn(start, reached)

    def test_names(self):
        for name, tree in trees():
            imported = [each.name for node in ast.walk(tree) if isinstance(node, ast.ImportFrom) for each in node.names]
            classes = [node.name for node in tree.body if isinstance(node, ast.ClassDef)]
            top = imported + classes + [node.name for node in tree.body if isinstance(node, ast.FunctionDef)]
            self.assertEqual(len(top), len(set(top)), name)
            for function in functions_of(tree):
                for local in bound_in(function):
                    self.assertNotIn(local, imported + classes, (name, function.name))
                    self.assertFalse(hasattr(builtins, local) or local in NEVER + NO_NAMES, (name, local))
                if not isinstance(function.parent, ast.ClassDef):
                    self.assertFalse(hasattr(builtins, function.name) or function.name in NEVER + NO_NAMES)
                if function.name.startswith("__"):
                    self.assertIn(function.name, DOUBLE)
            for node in ast.walk(tree):
                if isinstance(node, ast.Attribute):
                    self.assertNotIn(node.attr, NEVER)
                    self.assertFalse(node.attr.startswith("__"), (name, node.attr))
                if isinstance(node, ast.Name):
                    self.assertFalse(node.id.startswith("__"))
            words = re.sub(r'"""(.|\n)*?"""|#.*', "", read(name))
            self.nothing((name, word) for word in re.findall(r"\w+", words) if word in NO_WORDS)

    def test_calls(self):
        own = {node.name for _, node in nodes(ast.FunctionDef)}
        for name, tree in trees():
            known = {each.name for node in ast.walk(tree) if isinstance(node, ast.ImportFrom) for each in node.names}
            known |= {node.name for node in tree.body if isinstance(node, (ast.FunctionDef, ast.ClassDef))}
            for node in ast.walk(tree):
                if isinstance(node, ast.Name) and hasattr(builtins, node.id):
                    self.assertIn(node.id, BUILTINS, name)
                if not isinstance(node, ast.Call):
                    continue
                if isinstance(node.func, ast.Name):
                    self.assertTrue(node.func.id in known or node.func.id in BUILTINS, (name, node.func.id))
                else:
                    self.assertIsInstance(node.func, ast.Attribute)
                    self.assertTrue(node.func.attr in METHODS or node.func.attr in own, (name, node.func.attr))

    def test_what_is_iterated_at_once(self):
        for name, node in nodes(ast.Call):
            if called(node) in ONCE + MIXERS:
                above = node.parent
                looped = isinstance(above, (ast.For, ast.comprehension)) and above.iter is node
                taken = isinstance(above, ast.Call) and called(above) in TAKERS and node in above.args
                asked = called(node) == "range" and called(above) in ("len", "reversed")
                self.assertTrue(looped or taken or asked, (name, node.lineno))

    def test_sets_stand_where_they_may(self):
        for name, node in nodes(ast.Call):
            if called(node) == "set":
                self.assertIn(called(node.parent), ("sorted", "len"), (name, node.lineno))
                self.assertFalse(node.parent.keywords)

    def test_loops_do_not_change_what_they_go_over(self):
        changing = "append clear extend insert pop remove reverse setdefault update".split()
        for name, loop in nodes(ast.For):
            over = {node.id for node in ast.walk(loop.iter) if isinstance(node, ast.Name)}
            for node in [each for part in loop.body for each in ast.walk(part)]:
                if called(node) in changing and isinstance(node.func, ast.Attribute):
                    changed = node.func.value
                    self.assertFalse(isinstance(changed, ast.Name) and changed.id in over, (name, node.lineno))
                if isinstance(node, ast.Subscript) and isinstance(node.ctx, (ast.Store, ast.Del)):
                    self.assertFalse(isinstance(node.value, ast.Name) and node.value.id in over, (name, node.lineno))

    def test_comparisons_by_is(self):
        for name, node in nodes(ast.Compare):
            for sign, other in zip(node.ops, node.comparators):
                if isinstance(sign, (ast.Is, ast.IsNot)):
                    self.assertTrue(isinstance(other, ast.Constant) and other.value in (None, True, False))

    def test_strings(self):
        for name, node in nodes(ast.Constant):
            if isinstance(node.value, str) and not isinstance(node.parent, ast.Expr):
                self.assertNotIn("%", node.value)
                self.assertFalse(node.value.endswith("._") or node.value.startswith("__"))

    def test_errors(self):
        errors = {node.name for name, node in nodes(ast.ClassDef) if name in ("errors.py", "failures.py")}
        for name, node in nodes(ast.Raise):
            if node.exc is not None:
                self.assertIn(called(node.exc), errors)
        for name, node in nodes(ast.ExceptHandler):
            caught = node.type.elts if isinstance(node.type, ast.Tuple) else [node.type]
            self.assertTrue(all(each.id in errors for each in caught))

    def test_attributes_that_are_read_are_assigned(self):
        assigned = {node.attr for _, node in nodes(ast.Attribute) if isinstance(node.ctx, ast.Store)}
        methods = {node.name for _, node in nodes(ast.FunctionDef)}
        for name, node in nodes(ast.Attribute):
            if isinstance(node.ctx, ast.Load) and not isinstance(node.parent, ast.Call):
                self.assertIn(node.attr, assigned, (name, node.lineno))
            if isinstance(node.ctx, ast.Store):
                self.assertNotIn(node.attr, methods & set(METHODS))
                self.assertNotIn(node.attr, NO_ATTRIBUTES, (name, node.lineno))

    def test_each_function_and_class_has_a_docstring(self):
        for name, tree in trees():
            self.assertTrue(ast.get_docstring(tree), name)
            for node in tree.body:
                if isinstance(node, ast.FunctionDef) and not node.name.startswith("_"):
                    self.assertTrue(ast.get_docstring(node), (name, node.name))


if __name__ == "__main__":
    unittest.main()
