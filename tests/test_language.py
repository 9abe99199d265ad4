"""The rules of the Python subset that can be looked up in the lines and the syntax trees of the package."""

import ast
import builtins
import os
import re
import unittest

PACKAGE = os.path.join(os.path.dirname(os.path.dirname(os.path.abspath(__file__))), "floorpowers")
BUILTINS = set("""len range enumerate zip min max sum abs sorted reversed int str bool list tuple dict set isinstance
ord repr any all divmod property ValueError""".split())
METHODS = set("""append clear copy count endswith extend find get index insert isalnum isalpha isdigit islower isspace
isupper items join keys ljust lower lstrip partition pop remove replace reverse rfind rjust rpartition rsplit rstrip
setdefault split splitlines startswith strip update upper values zfill bit_length isascii""".split())
WORDS = """type typing typing_extensions enum Enum IntEnum StrEnum Flag IntFlag Generic Protocol ABC ABCMeta namedtuple
NamedTuple TypedDict TYPE_CHECKING abstractmethod""".split()
NAMES = set("""register mro elements open input law version_info with_traceback add_note attrgetter breakpoint builtins
compile copyright credits delattr dir eval exec exit gc getattr globals hasattr help id importlib license locals
methodcaller os quit setattr super type vars sys""".split())
SPECIAL_METHODS = ("__init__", "__enter__", "__exit__", "__eq__", "__len__")
# Statements that stand in these files alone.
LET = {"desk.py": (ast.Try,), "live.py": (ast.With,)}
NODES = (ast.Import, ast.Try, ast.With, ast.Global, ast.Nonlocal, ast.Assert, ast.Delete, ast.GeneratorExp, ast.SetComp,
         ast.Set, ast.Starred, ast.NamedExpr, ast.Match, ast.AnnAssign, ast.Yield, ast.YieldFrom,
         ast.Await, ast.AsyncFunctionDef, ast.Div, ast.MatMult, ast.Is, ast.IsNot, ast.Pow)


def sources():
    """The name, the text and the tree of each file."""
    for folder, _, files in os.walk(PACKAGE):
        if os.path.basename(folder) == "__pycache__":
            continue
        for name in files:
            with open(os.path.join(folder, name), encoding="utf-8") as file:
                text = file.read()
            yield name, text, ast.parse(text)


def bound_names(tree):
    """All names that a file gives to something."""
    for node in ast.walk(tree):
        if isinstance(node, (ast.FunctionDef, ast.ClassDef)):
            yield node.name
        elif isinstance(node, ast.arg):
            yield node.arg
        elif isinstance(node, ast.Name) and isinstance(node.ctx, ast.Store):
            yield node.id
        elif isinstance(node, ast.alias):
            yield node.name


class LanguageTest(unittest.TestCase):

    def test_files_and_lines(self):
        for name, text, _ in sources():
            self.assertTrue(name.endswith(".py") and name.islower(), name)
            lines = text.split("\n")
            self.assertLessEqual(len(lines), 400, name)
            for line in lines:
                self.assertLessEqual(len(line), 120, (name, line))
                self.assertTrue(all(" " <= sign <= "~" for sign in line), (name, line))
            told = re.findall("[A-Za-z0-9_]+", ast.unparse(self.without_docstrings(text)))
            for word in WORDS:
                self.assertNotIn(word, told, name)
            for part in ("dataclass", "overload", "contextmanager", "_wall"):
                self.assertNotIn(part, text, name)

    def without_docstrings(self, text):
        tree = ast.parse(text)
        for node in ast.walk(tree):
            if isinstance(node, (ast.Module, ast.FunctionDef, ast.ClassDef)) and ast.get_docstring(node) is not None:
                node.body = node.body[1:] or [ast.Pass()]
        return tree

    def test_module_level(self):
        for name, _, tree in sources():
            seen = []
            for node in tree.body:
                allowed = (ast.ImportFrom, ast.FunctionDef, ast.ClassDef, ast.Assign, ast.Expr)
                self.assertIsInstance(node, allowed, name)
                if isinstance(node, ast.Expr):
                    self.assertIs(node, tree.body[0], name)
                    self.assertIsNotNone(ast.get_docstring(tree), name)
                elif isinstance(node, ast.Assign):
                    self.assertEqual([type(each) for each in node.targets], [ast.Name], name)
                    ast.literal_eval(node.value)
                    seen.append(node.targets[0].id)
                elif isinstance(node, ast.ImportFrom):
                    seen += [alias.name for alias in node.names]
                else:
                    seen.append(node.name)
            self.assertEqual(sorted(seen), sorted(set(seen)), name)

    def test_imports_name_the_very_file_and_go_round_nowhere(self):
        homes = {}
        needs = {}
        for name, _, tree in sources():
            module = "floorpowers." + name[:-3]
            homes[module] = [node.name for node in tree.body if isinstance(node, (ast.FunctionDef, ast.ClassDef))]
            homes[module] += [node.targets[0].id for node in tree.body if isinstance(node, ast.Assign)]
            needs[module] = [node for node in ast.walk(tree) if isinstance(node, ast.ImportFrom)]
        for module, nodes in needs.items():
            for node in nodes:
                self.assertEqual(node.level, 0, module)
                for alias in node.names:
                    self.assertIn(alias.name, homes[node.module], module)
                    self.assertIsNone(alias.asname, module)
        done = set()
        while len(done) < len(needs):
            ready = [module for module in needs if module not in done and all(n.module in done for n in needs[module])]
            self.assertTrue(ready, "files import from each other")
            done |= set(ready)

    def test_all_imports_are_used(self):
        for name, _, tree in sources():
            used = {node.id for node in ast.walk(tree) if isinstance(node, ast.Name)}
            for node in ast.walk(tree):
                if isinstance(node, ast.ImportFrom):
                    for alias in node.names:
                        self.assertIn(alias.name, used, name)

    def test_functions(self):
        for name, _, tree in sources():
            for node in ast.walk(tree):
                if isinstance(node, (ast.FunctionDef, ast.ClassDef)):
                    for told in node.decorator_list:
                        self.assertEqual(told.id, "property", (name, node.name))
                        self.assertIn(node, self.methods(tree), (name, node.name))
                    if not node.name.startswith("__"):
                        self.assertIsNotNone(ast.get_docstring(node), (name, node.name))
                if isinstance(node, ast.FunctionDef):
                    self.assertLessEqual(node.end_lineno - node.lineno + 1, 40, (name, node.name))
                    if node.name.startswith("__"):
                        self.assertIn(node.name, SPECIAL_METHODS)
                        self.assertIn(node, self.methods(tree), (name, node.name))

    def methods(self, tree):
        return [each for node in tree.body if isinstance(node, ast.ClassDef) for each in node.body
                if isinstance(each, ast.FunctionDef)]

    def test_properties_are_assigned_nowhere_and_are_no_attributes(self):
        properties = {each.name for _, _, tree in sources() for each in self.methods(tree) if each.decorator_list}
        self.assertEqual(properties, {"house", "stand", "row", "is_at_end", "sitting", "led_one"})
        plain_ones = {each.name for _, _, tree in sources() for each in self.methods(tree) if not each.decorator_list}
        self.assertFalse(properties & plain_ones)
        for name, _, tree in sources():
            for node in ast.walk(tree):
                if isinstance(node, ast.Attribute) and isinstance(node.ctx, ast.Store):
                    self.assertNotIn(node.attr, properties, name)
                    self.assertNotIn(node.attr, plain_ones, name)

    def test_all_attributes_that_are_read_are_assigned(self):
        stored = {node.attr for _, _, tree in sources() for node in ast.walk(tree)
                  if isinstance(node, ast.Attribute) and isinstance(node.ctx, ast.Store)}
        own = {each.name for _, _, tree in sources() for each in self.methods(tree)}
        for name, _, tree in sources():
            for node in ast.walk(tree):
                if isinstance(node, ast.Attribute) and isinstance(node.ctx, ast.Load):
                    self.assertTrue(node.attr in stored | own | METHODS, (name, node.attr))

    def test_handlers_name_own_errors(self):
        own = {node.name for name, _, tree in sources() if name == "errors.py" for node in tree.body
               if isinstance(node, ast.ClassDef)}
        for name, _, tree in sources():
            for node in ast.walk(tree):
                if isinstance(node, ast.Try):
                    self.assertEqual((node.orelse, node.finalbody), ([], []), name)
                    for handler in node.handlers:
                        self.assertIn(handler.type.id, own, name)

    def test_syntax(self):
        for name, _, tree in sources():
            for node in ast.walk(tree):
                if isinstance(node, ast.Compare):
                    self.check_is(name, node)
                elif not isinstance(node, (ast.Is, ast.IsNot) + LET.get(name, ())):
                    self.assertNotIsInstance(node, NODES, (name, getattr(node, "lineno", None)))
                if isinstance(node, ast.Constant):
                    self.assertIsInstance(node.value, (int, str, type(None)), name)
                    if isinstance(node.value, str):
                        self.assertNotIn(chr(37), node.value, name)

    def check_is(self, name, node):
        for sign, other in zip(node.ops, node.comparators):
            if isinstance(sign, (ast.Is, ast.IsNot)):
                self.assertIsInstance(other, ast.Constant, name)
                self.assertIn(other.value, (None, True, False), name)

    def test_names(self):
        for name, _, tree in sources():
            bound = list(bound_names(tree))
            for each in bound:
                self.assertTrue(each in SPECIAL_METHODS or not each.startswith("__"), (name, each))
                self.assertNotIn(each, NAMES, name)
                self.assertFalse(hasattr(builtins, each) and not each.startswith("__"), (name, each))
            for node in ast.walk(tree):
                if isinstance(node, ast.Name) and isinstance(node.ctx, ast.Load) and hasattr(builtins, node.id):
                    self.assertIn(node.id, BUILTINS, name)
            self.check_locals(name, tree)

    def test_attributes(self):
        taken = {each for kind in (str, int, list, tuple, dict, set, bytes) for each in dir(kind)} | set(WORDS)
        for name, _, tree in sources():
            for node in ast.walk(tree):
                if isinstance(node, ast.Attribute) and isinstance(node.ctx, ast.Store):
                    self.assertNotIn(node.attr, taken, name)
                    self.assertIsInstance(node.value, ast.Name, name)

    def check_locals(self, name, tree):
        taken = {alias.name for node in tree.body if isinstance(node, ast.ImportFrom) for alias in node.names}
        taken |= {node.name for node in tree.body if isinstance(node, ast.ClassDef)}
        for node in ast.walk(tree):
            if isinstance(node, ast.FunctionDef):
                for each in bound_names(ast.Module(body=node.body + [node.args], type_ignores=[])):
                    self.assertNotIn(each, taken, (name, node.name))

    def test_calls(self):
        own = {each.name for _, _, tree in sources() for each in self.methods(tree)}
        for name, _, tree in sources():
            for node in ast.walk(tree):
                if isinstance(node, ast.Call):
                    if isinstance(node.func, ast.Attribute):
                        self.assertIn(node.func.attr, METHODS | own, name)
                        if node.func.attr != "undo":
                            self.assertEqual(node.keywords, [], name)
                    else:
                        self.assertIsInstance(node.func, ast.Name, name)
                if isinstance(node, ast.Raise) and name != "desk.py":
                    self.assertIsInstance(node.exc, ast.Call, name)


if __name__ == "__main__":
    unittest.main()
