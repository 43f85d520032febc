"""The rules of LANGUAGE.md that can be read off the package's files (L1 to L28, as far as they are used)."""

import ast
import builtins
import functools
import os
import re
import unittest
import warnings

ROOT = os.path.join(os.path.dirname(os.path.dirname(os.path.abspath(__file__))), "orderlycore")

BUILTINS = set("""
    len range enumerate zip min max sum abs sorted reversed int str bool bytes list tuple dict set isinstance ord repr
    any all divmod ValueError LookupError RuntimeError ArithmeticError
""".split())
STATEMENTS = (
    ast.FunctionDef, ast.ClassDef, ast.Return, ast.Delete, ast.Assign, ast.AugAssign, ast.For, ast.While, ast.If,
    ast.Raise, ast.Assert, ast.ImportFrom, ast.Expr, ast.Pass, ast.Break, ast.Continue, ast.Try,
)
# What the rules forbid, or bind to conditions that this package does without.
EXPRESSIONS_LEFT_OUT = (
    ast.GeneratorExp, ast.Lambda, ast.NamedExpr, ast.Yield, ast.YieldFrom, ast.Await, ast.Div, ast.MatMult, ast.Pow,
)
METHODS = set("""
    append clear copy count endswith extend find get index insert isalnum isalpha isdigit islower isspace isupper items
    join keys ljust lower lstrip partition pop remove replace reverse rfind rjust rpartition rsplit rstrip setdefault
    split splitlines startswith strip update upper values zfill bit_length isascii
""".split())
DOUBLE = {"__init__", "__eq__"}
NAMES_LEFT_OUT = set("""
    register mro elements open input law version_info with_traceback add_note attrgetter breakpoint builtins compile
    copyright credits delattr dir eval exec exit gc getattr globals hasattr help id importlib license locals
    methodcaller os quit setattr super type vars sys
""".split())
WORDS_LEFT_OUT = re.compile(r"\b(type|typing|typing_extensions|enum|Enum|IntEnum|StrEnum|Flag|IntFlag|Generic|Protocol"
                            r"|ABC|ABCMeta|namedtuple|NamedTuple|TypedDict|TYPE_CHECKING|abstractmethod)\b"
                            r"|dataclass|overload|contextmanager|_wall\b|_WallAttr")
OTHERS_WORDS = re.compile(r"_(wall|pe_|dcw_|enum_|cm_|twin_re_|lay_|law_|stub_|sre|WallAttr)")


def sources():
    """Of each file of the package its name and its text."""
    for name in sorted(os.listdir(ROOT)):
        if name != "__pycache__":
            with open(os.path.join(ROOT, name), encoding="utf-8") as file:
                yield name, file.read()


def bound(tree):
    """All names that a file binds: functions, classes, parameters, variables and caught errors."""
    for node in ast.walk(tree):
        if isinstance(node, (ast.FunctionDef, ast.ClassDef)):
            yield node.name
        elif isinstance(node, ast.arg):
            yield node.arg
        elif isinstance(node, ast.Name) and isinstance(node.ctx, ast.Store):
            yield node.id
        elif isinstance(node, (ast.alias, ast.ExceptHandler)):
            yield node.name


def plain(node, functions):
    """Whether a value at module level is plain, lists and dicts within others left out.

    Within lists, tuples and dicts the functions may stand, too: those that are defined above.
    """
    if isinstance(node, ast.UnaryOp):
        return isinstance(node.op, ast.USub) and plain(node.operand, functions)
    if isinstance(node, (ast.Tuple, ast.List)):
        return all(plain_within(one, functions) for one in node.elts)
    if isinstance(node, ast.Dict):
        return all(plain_within(one, functions) for one in node.keys + node.values)
    return isinstance(node, ast.Constant)


def plain_within(node, functions):
    if isinstance(node, ast.Name):
        return node.id in functions
    return plain(node, functions) and not isinstance(node, (ast.List, ast.Dict))


def defined(file):
    """The names of the functions, classes and values that a file defines at module level."""
    tree = ast.parse(dict(sources())[file + ".py"])
    names = [node.name for node in tree.body if isinstance(node, (ast.FunctionDef, ast.ClassDef))]
    return names + [node.targets[0].id for node in tree.body if isinstance(node, ast.Assign)]


def on_each_file(test):
    """The test is made with each file's text and its tree."""
    @functools.wraps(test)
    def made(self):
        for name, text in sources():
            with self.subTest(file=name):
                test(self, text, ast.parse(text))
    return made


class Language(unittest.TestCase):
    def test_files(self):
        names = [name for name, _ in sources()]
        self.assertIn("__init__.py", names)
        for name in names:
            self.assertRegex(name, r"^(__init__|[a-z][a-z0-9_]*)\.py$")

    @on_each_file
    def test_sizes_and_signs(self, text, tree):
        self.assertLessEqual(len(text.split("\n")), 399)
        for line in text.split("\n"):
            self.assertLessEqual(len(line), 120)
            self.assertRegex(line, r"^[ -~]*$")
        for node in ast.walk(tree):
            if isinstance(node, ast.FunctionDef):
                self.assertLessEqual(node.end_lineno - node.lineno + 1, 40, node.name)

    @on_each_file
    def test_python_gives_no_warning(self, text, _):
        with warnings.catch_warnings():
            warnings.simplefilter("error")
            compile(text, "file", "exec")

    @on_each_file
    def test_imports(self, _, tree):
        rest = [node.lineno for node in tree.body[1:] if not isinstance(node, ast.ImportFrom)]
        for node in ast.walk(tree):
            if isinstance(node, ast.ImportFrom):
                self.assertTrue(not rest or node.lineno < rest[0])
                self.assertRegex(node.module, r"^orderlycore\.[a-z_]+$")
                self.assertEqual(node.level, 0)
                for one in node.names:
                    self.assertIsNone(one.asname)
                    self.assertIn(one.name, defined(node.module.split(".")[1]))

    def test_no_imports_in_a_circle(self):
        needs = {}
        for name, text in sources():
            froms = [node.module for node in ast.parse(text).body if isinstance(node, ast.ImportFrom)]
            needs["orderlycore." + name[:-3]] = froms
        while needs:
            ready = [name for name, froms in needs.items() if not [one for one in froms if one in needs]]
            self.assertTrue(ready, f"imports in a circle: {sorted(needs)}")
            for name in ready:
                del needs[name]

    @on_each_file
    def test_nothing_is_imported_in_vain(self, text, tree):
        for node in tree.body:
            for one in getattr(node, "names", []):
                self.assertGreater(len(re.findall(rf"\b{one.name}\b", text)), 1, one.name)

    @on_each_file
    def test_module_level(self, _, tree):
        self.assertIsNotNone(ast.get_docstring(tree))
        names, functions = [], []
        for node in tree.body[1:]:
            self.assertIsInstance(node, (ast.ImportFrom, ast.FunctionDef, ast.ClassDef, ast.Assign))
            if isinstance(node, ast.Assign):
                self.assertEqual(len(node.targets), 1)
                self.assertTrue(plain(node.value, functions), ast.unparse(node))
                names.append(node.targets[0].id)
            elif isinstance(node, ast.ImportFrom):
                names += [one.name for one in node.names]
            else:
                names.append(node.name)
                functions += [node.name] if isinstance(node, ast.FunctionDef) else []
        self.assertEqual(sorted(names), sorted(set(names)))

    @on_each_file
    def test_statements_and_expressions(self, _, tree):
        for node in ast.walk(tree):
            if isinstance(node, ast.stmt):
                self.assertIsInstance(node, STATEMENTS, ast.unparse(node))
            self.assertNotIsInstance(node, EXPRESSIONS_LEFT_OUT)
            if isinstance(node, ast.Constant):
                self.assertNotIsInstance(node.value, (float, complex, bytes))
            if isinstance(node, (ast.FunctionDef, ast.ClassDef)):
                self.assertIn([ast.unparse(one) for one in node.decorator_list], ([], ["property"]))
            if isinstance(node, ast.FunctionDef) and node.name.startswith("__"):
                self.assertIn(node.name, DOUBLE)
            if isinstance(node, ast.Compare) and isinstance(node.ops[0], (ast.Is, ast.IsNot)):
                self.assertIn(ast.unparse(node.comparators[0]), ("None", "True", "False"))
            if isinstance(node, ast.Raise):
                self.assertIsInstance(node.exc, ast.Call)

    @on_each_file
    def test_only_own_errors_are_caught_and_lead_to_others(self, _, tree):
        for node in ast.walk(tree):
            if isinstance(node, ast.Try):
                self.assertEqual(node.orelse + node.finalbody, [])
                for one in node.handlers:
                    caught = one.type.elts if isinstance(one.type, ast.Tuple) else [one.type]
                    for name in caught:
                        self.assertIn(name.id, defined("errors"))
                    self.assertIsInstance(one.body[-1], ast.Raise)
                    self.assertEqual(ast.unparse(one.body[-1].cause), one.name)

    def test_no_property_has_the_name_of_a_method_or_of_what_is_stored(self):
        properties, others = set(), set()
        for _, text in sources():
            for node in ast.walk(ast.parse(text)):
                if isinstance(node, ast.ClassDef):
                    methods = [one for one in node.body if isinstance(one, ast.FunctionDef)]
                    properties |= {one.name for one in methods if one.decorator_list}
                    others |= {one.name for one in methods if not one.decorator_list}
                if isinstance(node, ast.Attribute) and isinstance(node.ctx, ast.Store):
                    others.add(node.attr)
        self.assertEqual(properties & others, set())

    @on_each_file
    def test_names(self, text, tree):
        imported = [one.name for node in tree.body if isinstance(node, ast.ImportFrom) for one in node.names]
        tops = [node.name for node in tree.body if isinstance(node, ast.ClassDef)] + imported
        for name in bound(tree):
            self.assertNotIn(name, NAMES_LEFT_OUT)
            self.assertNotIn(name, dir(builtins))
            self.assertIsNone(OTHERS_WORDS.match(name), name)
            if name not in DOUBLE:
                self.assertFalse(name.startswith("__"), name)
        for node in ast.walk(tree):
            if isinstance(node, ast.FunctionDef):
                held = list(bound(ast.Module(node.args.args + node.body, [])))
                self.assertEqual([one for one in held if one in tops], [], node.name)
            if isinstance(node, ast.Attribute):
                self.assertNotIn(node.attr, ("format", "format_map", "mro", "args", "encode", "decode"))
        code = "\n".join(ast.unparse(node) for node in tree.body[1:])
        self.assertIsNone(WORDS_LEFT_OUT.search(code))

    @on_each_file
    def test_builtins_and_methods(self, _, tree):
        own = {node.name for _, text in sources() for node in ast.walk(ast.parse(text))
               if isinstance(node, ast.FunctionDef)}
        known = set(bound(tree)) | BUILTINS | {"property"}
        for node in ast.walk(tree):
            if isinstance(node, ast.Name):
                self.assertIn(node.id, known)
            if isinstance(node, ast.Call) and isinstance(node.func, ast.Attribute):
                self.assertIn(node.func.attr, METHODS | own)

    @on_each_file
    def test_strings(self, _, tree):
        for node in ast.walk(tree):
            if isinstance(node, ast.Constant) and isinstance(node.value, str):
                self.assertNotIn("%", node.value)
                self.assertRegex(node.value, r"^[ -~\n]*$")
                self.assertFalse(node.value.endswith(("._", ".__")))
                self.assertFalse(node.value.startswith("__") and node.value.endswith("__"))

    @on_each_file
    def test_sets_are_measured_or_sorted_at_once(self, _, tree):
        for node in ast.walk(tree):
            for one in ast.iter_child_nodes(node):
                made = isinstance(one, (ast.Set, ast.SetComp))
                if made or isinstance(one, ast.Call) and ast.unparse(one.func) == "set":
                    self.assertIn(ast.unparse(getattr(node, "func", ast.Constant(""))), ("len", "sorted"))

    @on_each_file
    def test_no_method_is_an_attribute_of_its_class(self, _, tree):
        for node in tree.body:
            if isinstance(node, ast.ClassDef):
                methods = [one.name for one in node.body if isinstance(one, ast.FunctionDef)]
                stored = [one.attr for one in ast.walk(node)
                          if isinstance(one, ast.Attribute) and isinstance(one.ctx, ast.Store)]
                self.assertEqual([name for name in methods if name in stored], [])
                self.assertEqual(len(methods), len(set(methods)))


if __name__ == "__main__":
    unittest.main()
