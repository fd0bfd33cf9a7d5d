"""The rules for the form of the package that can be seen file by file; each failure names the rule and the line."""

import ast
import builtins
import io
import os
import re
import tokenize
import unittest

PACKAGE = os.path.join(os.path.dirname(os.path.dirname(os.path.abspath(__file__))), "ringlessday")
# The name _ is one only behind a doctest.
BUILTINS = set(dir(builtins)) - {"_"}
ALLOWED_BUILTINS = set(
    "len range enumerate zip min max sum abs sorted reversed int str bool list tuple dict set isinstance ord repr any "
    "all divmod iter next Exception ValueError TypeError KeyError IndexError LookupError ZeroDivisionError "
    "ArithmeticError OverflowError RuntimeError NotImplementedError AttributeError StopIteration NotImplemented "
    "property staticmethod classmethod super".split())
ALLOWED_METHODS = set(
    "append clear copy count endswith extend find get index insert isalnum isalpha isdigit islower isspace isupper items "
    "join keys ljust lower lstrip partition pop remove replace reverse rfind rjust rpartition rsplit rstrip setdefault "
    "split splitlines startswith strip update upper values zfill bit_length add discard".split())
DOUBLE_UNDERSCORES = set(
    "__init__ __eq__ __repr__ __str__ __len__ __call__ __iter__ __add__ __radd__ __sub__ __rsub__ __mul__ __rmul__ "
    "__floordiv__ __rfloordiv__ __neg__ __abs__ __bool__ __contains__ __getitem__".split())
BARRED_NAMES = set(
    "register mro elements open input law version_info with_traceback add_note attrgetter breakpoint builtins compile "
    "copyright credits delattr dir eval exec exit gc getattr globals hasattr help id importlib license locals "
    "methodcaller os quit setattr super type vars sys __name__".split())
BARRED_WORDS = set(
    "type typing typing_extensions enum Enum IntEnum StrEnum Flag IntFlag Generic Protocol ABC ABCMeta namedtuple "
    "NamedTuple TypedDict TYPE_CHECKING abstractmethod".split())
STATEMENTS = (ast.Assign, ast.AugAssign, ast.If, ast.While, ast.For, ast.Return, ast.Break, ast.Continue, ast.Pass,
              ast.Raise, ast.Assert, ast.Delete, ast.Try, ast.Expr, ast.FunctionDef, ast.ClassDef, ast.ImportFrom)
LIBRARY = {"math": ["gcd"]}
AT_ONCE = set("list tuple dict sorted sum any all enumerate zip min max".split())
ITERATED_AT_ONCE = set("zip enumerate reversed range items keys values".split())


def sources():
    for name in sorted(os.listdir(PACKAGE)):
        if name != "__pycache__":
            with open(os.path.join(PACKAGE, name), encoding="utf-8") as file:
                yield name, file.read()


class Form:
    """One file with what the rules look at."""

    def __init__(self, name, text):
        self.name = name
        self.text = text
        self.tree = ast.parse(text)
        self.parents = {inner: outer for outer in ast.walk(self.tree) for inner in ast.iter_child_nodes(outer)}
        self.functions = [node for node in ast.walk(self.tree) if isinstance(node, ast.FunctionDef)]
        self.classes = [node for node in ast.walk(self.tree) if isinstance(node, ast.ClassDef)]
        self.imports = [node for node in ast.walk(self.tree) if isinstance(node, ast.ImportFrom)]
        self.imported = [alias.name for node in self.imports for alias in node.names]

    def nodes(self, *kinds):
        return [node for node in ast.walk(self.tree) if isinstance(node, kinds)]

    def defined(self):
        found = [node.name for node in self.tree.body if isinstance(node, (ast.FunctionDef, ast.ClassDef))]
        return found + [node.targets[0].id for node in self.tree.body if isinstance(node, ast.Assign)]

    def bound(self):
        """All names that are bound in the file, with their nodes."""
        found = [(node.id, node) for node in self.nodes(ast.Name) if isinstance(node.ctx, (ast.Store, ast.Del))]
        found += [(node.arg, node) for node in self.nodes(ast.arg)]
        found += [(node.name, node) for node in self.nodes(ast.ExceptHandler) if node.name]
        return found + [(node.name, node) for node in self.functions + self.classes]


FORMS = [Form(name, text) for name, text in sources() if name.endswith(".py")]
OWN_METHODS = {inner.name for form in FORMS for node in form.classes for inner in node.body
               if isinstance(inner, ast.FunctionDef)}
OWN_ATTRIBUTES = {node.attr for form in FORMS for node in form.nodes(ast.Attribute) if isinstance(node.ctx, ast.Store)}
GENERATORS = {node.name for form in FORMS for node in form.functions
              if any(isinstance(inner, (ast.Yield, ast.YieldFrom)) for inner in ast.walk(node))}


class FormTest(unittest.TestCase):
    def check(self, rule, form, node, holds):
        self.assertTrue(holds, f"{rule}: {form.name}, line {getattr(node, 'lineno', node)}")

    def test_files(self):
        for name, _ in sources():
            self.assertRegex(name, r"^(__init__|[a-z][a-z0-9_]*)\.py$", "L1")
            self.assertFalse(name.startswith("test"), f"L14: {name}")
            self.assertFalse(hasattr(builtins, name[:-3]) and name != "__init__.py", f"L14: {name}")

    def test_characters_and_sizes(self):
        for form in FORMS:
            lines = form.text.split("\n")
            self.check("L10", form, len(lines), len(lines) <= 400)
            for at, line in enumerate(lines, 1):
                self.check("L10", form, at, len(line) <= 120 and line == line.rstrip())
                self.check("L14", form, at, all(" " <= letter <= "~" for letter in line))
            for node in form.functions:
                self.check("L10", form, node, node.end_lineno - node.lineno < 40)

    def test_imports(self):
        files = {form.name[:-3]: form for form in FORMS}
        for form in FORMS:
            others = [node for node in form.tree.body if not isinstance(node, ast.ImportFrom)]
            for node in form.imports:
                module = re.fullmatch(r"ringlessday\.([a-z]+)", node.module)
                self.check("L2", form, node, node.level == 0 and node in form.tree.body)
                self.check("L2", form, node, all(node.lineno < other.lineno for other in others[1:]))
                for alias in node.names:
                    known = files[module[1]].defined() if module else LIBRARY.get(node.module, [])
                    self.check("L16", form, node, alias.asname is None and alias.name in known)
            self.assertEqual(form.nodes(ast.Import), [], "L2")
            self.assertEqual(len(form.imported), len(set(form.imported)), f"L15: {form.name}")
            for name in form.imported:
                used = [node for node in form.nodes(ast.Name) if node.id == name]
                self.assertTrue(used, f"an import that is not used: {form.name}, {name}")

    def test_no_two_files_import_from_each_other(self):
        needs = {form.name[:-3]: {node.module.partition(".")[2] for node in form.imports} for form in FORMS}
        while needs:
            free = [name for name in needs if not needs[name] & set(needs)]
            self.assertTrue(free, f"L16: {sorted(needs)}")
            for name in free:
                del needs[name]

    def test_module_level(self):
        for form in FORMS:
            for node in form.tree.body:
                kinds = (ast.Expr, ast.ImportFrom, ast.FunctionDef, ast.ClassDef, ast.Assign)
                self.check("L3", form, node, isinstance(node, kinds))
                if isinstance(node, ast.Assign):
                    self.check("L3", form, node, len(node.targets) == 1 and isinstance(node.targets[0], ast.Name))
                    self.check("L3", form, node, self.is_plain(form, node.value, node.lineno))
                if isinstance(node, ast.Expr):
                    self.check("L3", form, node, isinstance(node.value, ast.Constant))
            names = form.defined() + form.imported
            self.assertEqual(len(names), len(set(names)), f"L15: {form.name}")

    def is_plain(self, form, value, line):
        """Whether a value can stand at module level: a literal, or a dict of functions that are defined above."""
        if isinstance(value, ast.Dict) and all(isinstance(part, ast.Name) for part in value.values):
            above = [node.name for node in form.functions if node in form.tree.body and node.lineno < line]
            return all(part.id in above for part in value.values) and all(map(ast.literal_eval, value.keys))
        ast.literal_eval(value)
        return True

    def test_statements(self):
        for form in FORMS:
            for node in form.nodes(ast.stmt):
                self.check("L6", form, node, isinstance(node, STATEMENTS))
            for node in form.functions:
                for decorator in node.decorator_list:
                    names = [inner.id for inner in ast.walk(decorator) if isinstance(inner, ast.Name)]
                    setter = isinstance(decorator, ast.Attribute) and decorator.attr == "setter"
                    self.check("L4", form, node, setter or names in (["property"], ["classmethod"], ["staticmethod"]))
                for default in node.args.defaults + [one for one in node.args.kw_defaults if one]:
                    ast.literal_eval(default)
                self.check("L21", form, node, node.returns is None)
            for node in form.nodes(ast.arg):
                self.check("L21", form, node, node.annotation is None)

    def test_classes(self):
        for form in FORMS:
            for node in form.classes:
                self.check("L15", form, node, node in form.tree.body and not node.decorator_list)
                names = [inner.name for inner in node.body if isinstance(inner, ast.FunctionDef)]
                for inner in node.body:
                    self.check("L5", form, inner, isinstance(inner, (ast.FunctionDef, ast.Assign, ast.Expr)))
                    if isinstance(inner, ast.Assign):
                        ast.literal_eval(inner.value)
                for name in names:
                    self.check("L5", form, node, not name.startswith("__") or name in DOUBLE_UNDERSCORES)
                if "__getitem__" in names:
                    self.check("L5", form, node, "__iter__" in names)
        self.assertEqual(OWN_METHODS & OWN_ATTRIBUTES, set(), "L18")

    def test_double_underscore_methods(self):
        for form in FORMS:
            for node in form.functions:
                returns = [inner.value for inner in ast.walk(node) if isinstance(inner, ast.Return)]
                changes = [inner for inner in ast.walk(node) if isinstance(inner, (ast.Assign, ast.AugAssign, ast.Delete))]
                if node.name in ("__eq__", "__repr__", "__str__", "__len__"):
                    self.check("L28", form, node, changes == [] and isinstance(node.body[-1], ast.Return))
                if node.name in ("__repr__", "__str__"):
                    self.check("L28", form, node, all(isinstance(value, ast.JoinedStr) for value in returns))
                if node.name == "__len__":
                    self.check("L28", form, node, all(getattr(value.func, "id", "") == "len" for value in returns))
                if node.name == "__init__":
                    self.check("L28", form, node, returns == [])
                if node.name.startswith("__r") and node.name != "__repr__":
                    self.check("L5", form, node, form.parents[node].bases == [])

    def test_expressions(self):
        for form in FORMS:
            for node in form.nodes(ast.Constant):
                self.check("L7", form, node, not isinstance(node.value, (float, complex, bytes)))
                if isinstance(node.value, str):
                    self.check("L27", form, node, "%" not in node.value)
            for node in form.nodes(ast.BinOp, ast.AugAssign):
                self.check("L7", form, node, not isinstance(node.op, (ast.Div, ast.MatMult, ast.Pow)))
            for node in form.nodes(ast.GeneratorExp, ast.Lambda, ast.Await, ast.NamedExpr):
                self.check("L7", form, node, False)
            for node in form.nodes(ast.Compare):
                if any(isinstance(op, (ast.Is, ast.IsNot)) for op in node.ops):
                    other = node.comparators[0]
                    self.check("L20", form, node, isinstance(other, ast.Constant) and other.value in (None, True, False))

    def test_names(self):
        for form in FORMS:
            classes_and_imports = form.imported + [node.name for node in form.classes]
            for name, node in form.bound():
                method = isinstance(node, ast.FunctionDef) and isinstance(form.parents[node], ast.ClassDef)
                self.check("L12", form, node, re.fullmatch(r"_?[A-Za-z][A-Za-z0-9_]*|_", name) or method)
                self.check("L15", form, node, method or name not in BUILTINS)
                self.check("L17", form, node, name not in BARRED_NAMES)
                if not isinstance(node, ast.ClassDef):
                    self.check("L15", form, node, method or name not in classes_and_imports)
            for node in form.nodes(ast.Name):
                if node.id in BUILTINS:
                    self.check("L8", form, node, node.id in ALLOWED_BUILTINS)
            for node in form.nodes(ast.Attribute):
                self.check("L17", form, node, node.attr not in ("register", "mro", "elements", "open", "input", "law"))

    def test_words(self):
        for form in FORMS:
            for token in tokenize.generate_tokens(io.StringIO(form.text).readline):
                if token.type == tokenize.NAME:
                    self.check("L17", form, token.start[0], token.string not in BARRED_WORDS)
                if token.type == tokenize.STRING and not token.string.startswith('"""'):
                    words = set(re.findall(r"\w+", token.string)) - {"type"}
                    self.check("L17", form, token.start[0], not words & BARRED_WORDS)
                    escapes = re.findall(r"\\(.)", token.string)
                    self.check("L27", form, token.start[0], all(letter in 'nt\\"' for letter in escapes))

    def test_methods_of_builtin_values(self):
        for form in FORMS:
            for node in form.nodes(ast.Call):
                if isinstance(node.func, ast.Attribute):
                    name = node.func.attr
                    self.check("L25", form, node, name in OWN_METHODS or name in ALLOWED_METHODS)
                    if name not in OWN_METHODS:
                        self.check("L25", form, node, not node.keywords)

    def test_errors(self):
        for form in FORMS:
            for node in form.nodes(ast.Raise):
                built = isinstance(node.exc, ast.Call) and isinstance(node.exc.func, ast.Name)
                self.check("L19", form, node, node.exc is None or built)
            for node in form.nodes(ast.ExceptHandler):
                names = [inner.id for inner in ast.walk(node.type) if isinstance(inner, ast.Name)]
                for name in names:
                    self.check("L19", form, node, name in form.imported or name in ("KeyError", "ZeroDivisionError"))

    def test_what_is_iterated_at_once(self):
        for form in FORMS:
            for node in form.nodes(ast.Call):
                name = node.func.id if isinstance(node.func, ast.Name) else getattr(node.func, "attr", "")
                if name in ITERATED_AT_ONCE or name in GENERATORS:
                    outer = form.parents[node]
                    looped = isinstance(outer, (ast.For, ast.comprehension)) and outer.iter is node
                    called = isinstance(outer, ast.Call) and getattr(outer.func, "id", "") in AT_ONCE
                    tested = isinstance(outer, ast.Compare) and isinstance(outer.ops[0], (ast.In, ast.NotIn))
                    self.check("L23", form, node, looped or called or (tested and name == "range"))

    def test_sets(self):
        for form in FORMS:
            for node in form.nodes(ast.Call, ast.Set, ast.SetComp):
                if isinstance(node, ast.Call) and getattr(node.func, "id", "") != "set":
                    continue
                outer = form.parents[node]
                stored = isinstance(outer, ast.Assign) and isinstance(outer.targets[0], ast.Name)
                called = isinstance(outer, ast.Call) and getattr(outer.func, "id", "") in ("sorted", "len")
                self.check("L24", form, node, stored or called or isinstance(outer, ast.Compare))

    def test_generators(self):
        names = [node.name for form in FORMS for node in form.functions]
        for name in GENERATORS:
            self.assertEqual(names.count(name), 1, f"L23: {name}")


if __name__ == "__main__":
    unittest.main()
