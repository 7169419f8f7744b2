"""The rules of the language that a test can see at once; the others are for the reader."""

import ast
import builtins
import pathlib
import re
import unittest

PACKAGE = pathlib.Path(__file__).resolve().parent.parent / "noaslong"
WORDS = ("type typing typing_extensions enum Enum IntEnum StrEnum Flag IntFlag Generic Protocol ABC ABCMeta namedtuple "
         "NamedTuple TypedDict TYPE_CHECKING abstractmethod").split()
PARTS = ("dataclass", "overload", "contextmanager")
BUILTINS = ("len range enumerate zip min max sum abs sorted reversed int str bool list tuple dict set isinstance ord "
            "repr any all divmod iter next super Exception ValueError TypeError KeyError IndexError LookupError "
            "ZeroDivisionError ArithmeticError OverflowError RuntimeError NotImplementedError AttributeError "
            "StopIteration NotImplemented property staticmethod classmethod").split()
DUNDERS = ("__init__ __eq__ __repr__ __str__ __len__ __enter__ __exit__ __call__ __iter__").split()
METHODS = ("append clear copy count endswith extend find get index insert isalnum isalpha isdigit islower "
           "isspace isupper items join keys ljust lower lstrip partition pop remove replace reverse rfind rjust "
           "rpartition rsplit rstrip setdefault split splitlines startswith strip update upper values zfill "
           "bit_length title capitalize swapcase casefold center expandtabs removeprefix removesuffix rindex "
           "isascii isdecimal isnumeric istitle isidentifier isprintable translate add discard").split()
NEEDS_LIST = ("any", "all", "min", "max", "sum", "sorted")
NOWHERE = "register mro elements open input version_info with_traceback add_note global format".split()


def files():
    return sorted(PACKAGE.glob("*.py"))


def trees():
    return [(path.name, ast.parse(path.read_text())) for path in files()]


def nodes(*kinds):
    return [(name, node) for name, tree in trees() for node in ast.walk(tree) if isinstance(node, kinds)]


class Files(unittest.TestCase):
    def test_nothing_but_plain_files(self):
        for path in PACKAGE.iterdir():
            if path.name != "__pycache__":
                self.assertRegex(path.name, r"\A(__init__|[a-z][a-z0-9_]*)\.py\Z")

    def test_signs_and_sizes(self):
        for path in files():
            text = path.read_text()
            self.assertRegex(text, r"\A[ -~\n]*\Z", path.name)
            self.assertLessEqual(len(text.splitlines()), 400, path.name)
            self.assertLessEqual(max(len(line) for line in text.splitlines()), 120, path.name)

    def test_words(self):
        for path in files():
            found = set(re.findall(r"\w+", path.read_text()))
            self.assertEqual(found & {*WORDS}, set(), path.name)
            self.assertEqual([part for part in PARTS if part in path.read_text()], [], path.name)

    def test_functions_are_short(self):
        for name, node in nodes(ast.FunctionDef):
            self.assertLessEqual(node.end_lineno - node.lineno + 1, 40, (name, node.name))


class Names(unittest.TestCase):
    def test_imports_name_the_file_that_defines(self):
        defined = {f"noaslong.{name[:-3]}": set() for name, tree in trees()}
        for name, tree in trees():
            for node in tree.body:
                if isinstance(node, (ast.FunctionDef, ast.ClassDef)):
                    defined[f"noaslong.{name[:-3]}"].add(node.name)
                if isinstance(node, ast.Assign):
                    defined[f"noaslong.{name[:-3]}"].update(target.id for target in node.targets)
        for name, node in nodes(ast.Import, ast.ImportFrom):
            self.assertIsInstance(node, ast.ImportFrom, name)
            self.assertLessEqual({alias.name for alias in node.names}, defined[node.module], name)

    def test_names_that_are_not_used(self):
        # In a text, as in the rows of a desk, such a word may stand.
        for name, node in nodes(ast.Name, ast.Attribute, ast.arg, ast.keyword, ast.FunctionDef, ast.ClassDef, ast.alias,
                                ast.ExceptHandler):
            word = {ast.Name: "id", ast.Attribute: "attr", ast.arg: "arg", ast.keyword: "arg"}.get(type(node), "name")
            self.assertNotIn(getattr(node, word), NOWHERE, (name, node.lineno))

    def test_no_name_begins_with_an_underscore(self):
        for name, node in nodes(ast.Name, ast.Attribute, ast.arg, ast.FunctionDef, ast.ClassDef):
            word = {ast.Name: "id", ast.Attribute: "attr", ast.arg: "arg"}.get(type(node), "name")
            if getattr(node, word) not in DUNDERS:
                self.assertFalse(getattr(node, word).startswith("_"), (name, node.lineno))

    def test_builtins_are_read_and_not_named_anew(self):
        for name, node in nodes(ast.Name):
            if hasattr(builtins, node.id):
                self.assertIn(node.id, BUILTINS, (name, node.lineno))
                self.assertIsInstance(node.ctx, ast.Load, (name, node.lineno))
        for name, node in nodes(ast.arg):
            self.assertFalse(hasattr(builtins, node.arg), (name, node.lineno))

    def test_no_parameter_or_variable_has_the_name_of_a_class_or_an_import(self):
        for name, tree in trees():
            classes = {node.name for node in tree.body if isinstance(node, ast.ClassDef)}
            taken = classes | {alias.name for node in tree.body if isinstance(node, ast.ImportFrom)
                               for alias in node.names}
            for node in ast.walk(tree):
                if isinstance(node, ast.arg):
                    self.assertNotIn(node.arg, taken, (name, node.lineno))
                if isinstance(node, ast.Name) and isinstance(node.ctx, ast.Store):
                    self.assertNotIn(node.id, taken, (name, node.lineno))

    def test_each_import_is_used(self):
        for name, tree in trees():
            used = {node.id for node in ast.walk(tree) if isinstance(node, ast.Name)}
            for node in tree.body:
                if isinstance(node, ast.ImportFrom):
                    self.assertLessEqual({alias.name for alias in node.names}, used, name)

    def test_no_two_files_import_from_each_other(self):
        above = {f"noaslong.{name[:-3]}": {node.module for node in tree.body if isinstance(node, ast.ImportFrom)}
                 for name, tree in trees()}
        # Files that import nothing but what is already laid down can be laid down, till none is left.
        laid = set()
        while laid != set(above):
            more = {name for name in above if name not in laid and above[name] <= laid}
            self.assertNotEqual(more, set())
            laid |= more

    def test_attributes_that_are_read_are_set(self):
        methods = {part.name for name, node in nodes(ast.ClassDef) for part in node.body
                   if isinstance(part, ast.FunctionDef)}
        stored = {node.attr for name, node in nodes(ast.Attribute) if isinstance(node.ctx, ast.Store)}
        for name, node in nodes(ast.Attribute):
            if isinstance(node.ctx, ast.Load):
                self.assertIn(node.attr, {*methods, *stored, *METHODS}, (name, node.lineno))

    def test_no_name_is_a_method_and_an_attribute(self):
        methods = {part.name for name, node in nodes(ast.ClassDef) for part in node.body
                   if isinstance(part, ast.FunctionDef)}
        stored = {node.attr for name, node in nodes(ast.Attribute) if isinstance(node.ctx, ast.Store)}
        self.assertEqual(methods & stored, set())


class Expressions(unittest.TestCase):
    def test_no_barred_statements_and_signs(self):
        barred = (ast.Global, ast.AsyncFunctionDef)
        self.assertEqual([(name, node.lineno) for name, node in nodes(*barred)], [])
        for name, node in nodes(ast.BinOp, ast.AugAssign):
            self.assertNotIsInstance(node.op, (ast.Div, ast.MatMult), (name, node.lineno))

    def test_strings_and_numbers(self):
        for name, node in nodes(ast.Constant):
            self.assertNotIsInstance(node.value, (float, complex), (name, node.lineno))
            if isinstance(node.value, str):
                self.assertNotIn("%", node.value, (name, node.lineno))

    def test_is_stands_beside_three_values(self):
        for name, node in nodes(ast.Compare):
            for sign, right in zip(node.ops, node.comparators):
                if isinstance(sign, (ast.Is, ast.IsNot)):
                    self.assertIsInstance(right, ast.Constant, (name, node.lineno))

    def test_lists_in_the_place_of_generators(self):
        for name, node in nodes(ast.Call):
            if isinstance(node.func, ast.Name) and node.func.id in NEEDS_LIST:
                found = [part for part in node.args if isinstance(part, ast.GeneratorExp)]
                self.assertEqual(found, [], (name, node.lineno))

    def test_methods_are_own_ones_or_listed_ones(self):
        own = {part.name for name, node in nodes(ast.ClassDef) for part in node.body
               if isinstance(part, ast.FunctionDef)}
        for name, node in nodes(ast.Call):
            if isinstance(node.func, ast.Attribute):
                self.assertIn(node.func.attr, {*own, *METHODS}, (name, node.lineno))

    def test_super_is_asked_for_a_method_at_once(self):
        found = [name for name, node in nodes(ast.Name) if node.id == "super"]
        called = [name for name, node in nodes(ast.Call) if isinstance(node.func, ast.Attribute)
                  and isinstance(node.func.value, ast.Call) and isinstance(node.func.value.func, ast.Name)
                  and node.func.value.func.id == "super" and not node.func.value.args
                  and (not node.func.attr.startswith("__") or node.func.attr == "__init__")]
        self.assertEqual(called, found)

    def test_what_stands_in_a_finally(self):
        for name, node in nodes(ast.Try):
            for row in node.finalbody:
                self.assertIsInstance(row, ast.Expr, (name, node.lineno))
                self.assertEqual(row.value.func.attr, "append", (name, node.lineno))
                for part in ast.walk(row.value.args[0]):
                    self.assertIsInstance(part, (ast.Tuple, ast.Constant, ast.Attribute, ast.Name, ast.Load))

    def test_own_errors_alone_are_caught_and_made_on_the_spot(self):
        errors = {node.name for name, node in nodes(ast.ClassDef) if name == "errors.py"}
        for name, node in nodes(ast.ExceptHandler):
            self.assertIn(node.type.id, errors, (name, node.lineno))
        for name, node in nodes(ast.Raise):
            self.assertIsInstance(node.exc, ast.Call, (name, node.lineno))
            self.assertIn(node.exc.func.id, {*errors, "NotImplementedError"}, (name, node.lineno))

    def test_powers_have_literal_exponents(self):
        for name, node in nodes(ast.BinOp, ast.AugAssign):
            if isinstance(node.op, ast.Pow):
                self.assertIsInstance(getattr(node, "right", None), ast.Constant, (name, node.lineno))

    def test_nothing_is_sorted_in_place(self):
        found = [(name, node.lineno) for name, node in nodes(ast.Attribute) if node.attr == "sort"]
        self.assertEqual(found, [])


if __name__ == "__main__":
    unittest.main()
