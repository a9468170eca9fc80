"""The form of the code: what a look at the files of the package can tell."""

import ast
import builtins
import io
import os
import re
import tokenize
import unittest
import warnings

FOLDER = os.path.join(os.path.dirname(os.path.dirname(os.path.abspath(__file__))), "showhouse")

LIBRARY = {
    "heapq": {"heappush", "heappop", "heapify", "heapreplace", "heappushpop"},
    "math": {"gcd", "lcm", "isqrt", "comb", "perm", "factorial"},
    "itertools": {
        "product", "combinations", "permutations", "chain", "accumulate", "pairwise", "islice", "zip_longest",
    },
    "collections": {"defaultdict"},
}
BUILTINS = set(
    "len range enumerate zip min max sum abs sorted reversed int str bool list tuple dict set isinstance ord repr "
    "any all divmod iter next map bytes ValueError KeyError IndexError LookupError TypeError Exception "
    "ZeroDivisionError StopIteration NotImplemented super property staticmethod classmethod".split()
)
METHODS = set(
    "append clear copy count endswith extend find get index insert isalnum isalpha isdigit islower isspace isupper "
    "items join keys ljust lower lstrip partition pop remove replace reverse rfind rjust rpartition rsplit rstrip "
    "setdefault split splitlines startswith strip update upper values zfill bit_length title capitalize swapcase "
    "casefold center expandtabs removeprefix removesuffix rindex isascii isdecimal isnumeric istitle isidentifier "
    "isprintable add discard __init__".split()
)
SPECIAL = set("__init__ __eq__ __repr__ __str__ __len__ __enter__ __exit__ __call__ __iter__".split())
BARRED_NAMES = set(
    "register mro elements open input law version_info with_traceback add_note attrgetter breakpoint builtins "
    "compile copyright credits delattr dir eval exec exit gc globals help id importlib license locals methodcaller "
    "os quit type vars sys".split()
)
BARRED_WORDS = set(
    "type typing typing_extensions enum Enum IntEnum StrEnum Flag IntFlag Generic Protocol ABC ABCMeta namedtuple "
    "NamedTuple TypedDict TYPE_CHECKING abstractmethod dataclass overload contextmanager".split()
)
BARRED_FILES = {"test", "tests", "testing", "site", "conftest", "sitecustomize", "usercustomize"}
STATEMENTS = (
    ast.Assign, ast.AugAssign, ast.AnnAssign, ast.If, ast.While, ast.For, ast.Return, ast.Break, ast.Continue,
    ast.Pass, ast.Raise, ast.Assert, ast.Delete, ast.Nonlocal, ast.Match, ast.With, ast.Try, ast.Expr,
    ast.FunctionDef, ast.ClassDef, ast.ImportFrom,
)
CAUGHT_FREELY = {"KeyError", "ZeroDivisionError", "StopIteration"}
VIEWS = {"zip", "enumerate", "reversed", "range", "items", "keys", "values"}
GO_OVER = {"list", "tuple", "dict", "sorted", "sum", "min", "max", "any", "all", "enumerate", "zip", "reversed", "len"}
BARRED_ATTRIBUTES = set(
    "items keys values pop update append clear extend insert remove reverse setdefault sort args encode decode hex "
    "fromhex format format_map mro".split()
)
# What the interface lists, and nothing in the package needs.
OFFERED = set(
    "tried reckoned worths kind_of term_text read_term world_text read_world read_saying showing_text read_showing "
    "plain fitting sought shows likeness led book_text read_book House put take change together undo editions log "
    "deeds slip leant borne whole states HouseError".split()
)
KEYWORDS = {
    "sorted": {"key", "reverse"}, "min": {"key", "default"}, "max": {"key", "default"}, "sum": {"start"},
    "enumerate": {"start"}, "zip": {"strict"},
}


def python_files():
    return sorted([name for name in os.listdir(FOLDER) if name.endswith(".py")])


def text_of(name):
    with open(os.path.join(FOLDER, name), encoding="utf-8", newline="") as file:
        return file.read()


def tree_of(name):
    return ast.parse(text_of(name))


def is_docstring(statement):
    return isinstance(statement, ast.Expr) and isinstance(statement.value, ast.Constant)


def bound_names(tree):
    """All names that the tree binds, with those of attributes and keywords left out."""
    for node in ast.walk(tree):
        if isinstance(node, (ast.FunctionDef, ast.ClassDef)):
            yield node.name
        elif isinstance(node, ast.Name) and not isinstance(node.ctx, ast.Load):
            yield node.id
        elif isinstance(node, ast.arg):
            yield node.arg
        elif isinstance(node, ast.alias):
            yield node.asname or node.name
        elif isinstance(node, ast.ExceptHandler) and node.name:
            yield node.name


def top_names(tree):
    """The names that the module level of a file defines or imports, in order."""
    for statement in tree.body:
        if isinstance(statement, (ast.FunctionDef, ast.ClassDef)):
            yield statement.name
        elif isinstance(statement, ast.Assign):
            yield from [target.id for target in statement.targets]
        elif isinstance(statement, ast.ImportFrom):
            yield from [alias.name for alias in statement.names]


def imports_of(tree):
    return [node for node in ast.walk(tree) if isinstance(node, (ast.Import, ast.ImportFrom))]


def is_plain(value):
    """Tell whether an expression at module level is a plain value."""
    if isinstance(value, (ast.List, ast.Tuple)):
        return all(is_plain(part) for part in value.elts)
    if isinstance(value, ast.Dict):
        return all(is_plain(part) for part in value.keys + value.values)
    if isinstance(value, ast.UnaryOp):
        return isinstance(value.op, ast.USub) and is_plain(value.operand)
    return isinstance(value, (ast.Constant, ast.Name))


def words_in_code(text):
    """The words of a file outside of its comments and docstrings."""
    docstrings = [
        (statement.lineno, statement.col_offset)
        for statement in ast.walk(ast.parse(text)) if is_docstring(statement)
    ]
    for token in tokenize.generate_tokens(io.StringIO(text).readline):
        if token.type != tokenize.COMMENT and token.start not in docstrings:
            yield from re.findall(r"\w+", token.string)


class EachFile(unittest.TestCase):
    def each(self):
        return [(name, text_of(name), tree_of(name)) for name in python_files()]

    def nodes(self, *classes):
        """The nodes of these classes in all files, each with the place where it stands."""
        return [
            (f"{name}:{getattr(node, 'lineno', 0)}", node)
            for name, _, tree in self.each() for node in ast.walk(tree) if isinstance(node, classes)
        ]

    def test_the_folder_holds_python_files_only(self):
        names = [name for name in os.listdir(FOLDER) if name != "__pycache__"]
        self.assertEqual(sorted(names), python_files())
        self.assertIn("__init__.py", names)
        for name in names:
            self.assertRegex(name, r"\A(__init__|__main__|[a-z][a-z0-9_]*)\.py\Z")
            word = name[:-3]
            self.assertFalse(word in BARRED_FILES or word in dir(builtins) or re.match("law_|test_", word), name)

    def test_characters_and_sizes(self):
        for name, text, _ in self.each():
            self.assertEqual(re.findall("[^ -~\n]", text), [], name)
            lines = text.splitlines()
            self.assertLessEqual(len(lines), 399, name)
            self.assertLessEqual(max([0] + [len(line) for line in lines]), 120, name)
        for where, node in self.nodes(ast.FunctionDef):
            self.assertLessEqual(node.end_lineno - node.lineno + 1, 40, where)

    def test_python_gives_no_warning(self):
        for name, text, _ in self.each():
            with warnings.catch_warnings():
                warnings.simplefilter("error")
                compile(text, name, "exec")

    def test_imports(self):
        for name, _, tree in self.each():
            for node in imports_of(tree):
                self.assertIsInstance(node, ast.ImportFrom, name)
                self.assertIn(node, tree.body, name)
                self.assertEqual(node.level, 0, name)
                names = [alias.name for alias in node.names]
                if node.module in LIBRARY:
                    self.assertLessEqual(set(names), LIBRARY[node.module], name)
                    self.assertTrue(all(alias.asname is None for alias in node.names), name)
                    continue
                self.assertRegex(node.module, r"\Ashowhouse\.\w+\Z", name)
                source = tree_of(node.module.split(".")[1] + ".py")
                made = [part for part in source.body if not isinstance(part, ast.ImportFrom)]
                self.assertLessEqual(set(names), set(top_names(ast.Module(made, []))), name)

    def test_imports_make_no_circle(self):
        waiting = {
            name: {node.module.split(".")[1] + ".py" for node in imports_of(tree_of(name)) if "." in node.module}
            for name in python_files()
        }
        while waiting:
            free = [name for name in waiting if not waiting[name] & set(waiting)]
            self.assertTrue(free, sorted(waiting))
            for name in free:
                del waiting[name]

    def test_module_level(self):
        for name, _, tree in self.each():
            names = list(top_names(tree))
            self.assertEqual(len(names), len(set(names)), name)
            kinds = [isinstance(statement, ast.ImportFrom) for statement in tree.body if not is_docstring(statement)]
            self.assertEqual(kinds, sorted(kinds, reverse=True), name)
            for statement in tree.body:
                if isinstance(statement, ast.Assign):
                    self.assertEqual([type(target) for target in statement.targets], [ast.Name], name)
                    self.assertTrue(is_plain(statement.value), name)
                elif not is_docstring(statement):
                    self.assertIsInstance(statement, (ast.ImportFrom, ast.FunctionDef, ast.ClassDef), name)

    def test_statements(self):
        for where, node in self.nodes(ast.stmt):
            self.assertIsInstance(node, STATEMENTS, where)
            if isinstance(node, ast.Expr) and not is_docstring(node):
                self.assertIsInstance(node.value, (ast.Call, ast.Yield, ast.YieldFrom), where)
        for where, node in self.nodes(ast.ClassDef):
            self.assertEqual(node.decorator_list, [], where)
        for where, node in self.nodes(ast.FunctionDef):
            for decorator in node.decorator_list:
                self.assertRegex(ast.unparse(decorator), r"\A(property|staticmethod|classmethod|\w+\.setter)\Z", where)

    def test_expressions(self):
        for where, node in self.nodes(ast.Div, ast.MatMult, ast.Await, ast.Starred):
            self.assertIsInstance(node, ast.Starred, where)
        for where, node in self.nodes(ast.Constant):
            self.assertIsInstance(node.value, (int, str, bytes, bool, type(None)), where)
            if isinstance(node.value, str):
                self.assertNotIn("%", node.value, where)
        for where, node in self.nodes(ast.Compare):
            for sign, right in zip(node.ops, node.comparators):
                if isinstance(sign, (ast.Is, ast.IsNot)):
                    self.assertIn(ast.unparse(right), ("None", "True", "False"), where)

    def test_escapes(self):
        for name, text, _ in self.each():
            for token in tokenize.generate_tokens(io.StringIO(text).readline):
                if token.type == tokenize.STRING:
                    self.assertEqual(re.findall(r"\\[^nt\\'\"]", token.string), [], name)

    def test_builtins(self):
        for where, node in self.nodes(ast.Name):
            if hasattr(builtins, node.id):
                self.assertIn(node.id, BUILTINS, where)
        for name, _, tree in self.each():
            taken = {bound for bound in bound_names(tree) if hasattr(builtins, bound)}
            methods = {
                part.name for node in ast.walk(tree) if isinstance(node, ast.ClassDef)
                for part in node.body if isinstance(part, ast.FunctionDef)
            }
            self.assertEqual(taken - methods, set(), name)
            self.assertEqual(taken & BUILTINS, set(), name)

    def test_names(self):
        for name, _, tree in self.each():
            for bound in bound_names(tree):
                self.assertTrue(bound in SPECIAL or re.match(r"\A_?[A-Za-z][A-Za-z0-9_]*\Z|\A_\Z", bound), name)
                self.assertNotIn(bound, BARRED_NAMES, name)
            for node in ast.walk(tree):
                if isinstance(node, ast.Attribute):
                    self.assertTrue(node.attr in SPECIAL or "__" not in node.attr, name)

    def test_no_local_name_is_that_of_an_import_or_a_class(self):
        for name, _, tree in self.each():
            taken = {alias.name for node in imports_of(tree) for alias in node.names}
            taken |= {node.name for node in tree.body if isinstance(node, ast.ClassDef)}
            for function in ast.walk(tree):
                if isinstance(function, ast.FunctionDef):
                    inside = {bound for part in function.body for bound in bound_names(part)}
                    inside |= {part.arg for part in ast.walk(function.args) if isinstance(part, ast.arg)}
                    self.assertEqual(inside & taken, set(), f"{name}: {function.name}")

    def test_barred_words(self):
        for name, text, _ in self.each():
            self.assertEqual(BARRED_WORDS & set(words_in_code(text)), set(), name)
            self.assertNotIn("_wall", text, name)

    def test_methods_that_are_called(self):
        own = {node.name for _, node in self.nodes(ast.FunctionDef)}
        for where, node in self.nodes(ast.Call):
            if isinstance(node.func, ast.Attribute):
                self.assertIn(node.func.attr, METHODS | own, where)
                self.assertNotEqual(node.func.attr, "sort", where)

    def test_keywords_of_builtins(self):
        for where, node in self.nodes(ast.Call):
            if isinstance(node.func, ast.Name) and node.func.id in BUILTINS:
                self.assertLessEqual({word.arg for word in node.keywords}, KEYWORDS.get(node.func.id, set()), where)

    def test_no_generators_where_a_class_compares(self):
        for where, node in self.nodes(ast.Call):
            if isinstance(node.func, ast.Name) and node.func.id in ("any", "all", "min", "max", "sum", "sorted"):
                for part in node.args:
                    self.assertNotIsInstance(part, ast.GeneratorExp, where)

    def test_errors_are_caught_and_raised_by_name(self):
        own = {node.name for node in tree_of("errors.py").body if isinstance(node, ast.ClassDef)}
        for where, node in self.nodes(ast.ExceptHandler):
            self.assertIsNotNone(node.type, where)
            caught = node.type.elts if isinstance(node.type, ast.Tuple) else [node.type]
            self.assertLessEqual({ast.unparse(part) for part in caught}, own | CAUGHT_FREELY, where)
        for where, node in self.nodes(ast.Raise):
            if node.exc is not None:
                self.assertIsInstance(node.exc, ast.Call, where)
                self.assertIn(ast.unparse(node.exc.func), own, where)

    def test_views_are_iterated_at_once(self):
        for name, _, tree in self.each():
            at_once = set()
            for node in ast.walk(tree):
                if isinstance(node, (ast.For, ast.comprehension)):
                    at_once.add(node.iter)
                elif isinstance(node, ast.Call) and isinstance(node.func, ast.Name) and node.func.id in GO_OVER:
                    at_once.update(node.args)
            for node in ast.walk(tree):
                if isinstance(node, ast.Call):
                    word = node.func.id if isinstance(node.func, ast.Name) else getattr(node.func, "attr", None)
                    if word in VIEWS:
                        self.assertIn(node, at_once, f"{name}:{node.lineno}")

    def test_names_of_classes_and_attributes(self):
        for where, node in self.nodes(ast.ClassDef):
            self.assertRegex(node.name, r"\A[A-Z][A-Za-z]*\Z", where)
            methods = {part.name for part in node.body if isinstance(part, ast.FunctionDef)}
            stored = {
                part.attr for part in ast.walk(node) if isinstance(part, ast.Attribute) and isinstance(part.ctx, ast.Store)
            }
            self.assertEqual(stored & (methods | BARRED_ATTRIBUTES), set(), where)

    def test_what_is_imported_or_defined_is_used(self):
        words = [word for _, text, _ in self.each() for word in words_in_code(text)]
        for name, text, tree in self.each():
            for node in imports_of(tree):
                for alias in node.names:
                    self.assertGreater(list(words_in_code(text)).count(alias.name), 1, name)
            for node in ast.walk(tree):
                if isinstance(node, (ast.FunctionDef, ast.ClassDef)) and node.name not in SPECIAL | OFFERED:
                    self.assertGreater(words.count(node.name), 1, f"{name}: {node.name}")

    def test_what_ends_a_try_is_simple(self):
        for where, node in self.nodes(ast.Try):
            for statement in node.finalbody:
                self.assertRegex(ast.unparse(statement), r"\A(\w+\.)?\w+ = [\w.]+\Z|\A[\w.]+\.append\([\w.,()' ]+\)\Z", where)

    def test_sets_are_not_iterated(self):
        for where, node in self.nodes(ast.For, ast.comprehension):
            self.assertNotIsInstance(node.iter, (ast.Set, ast.SetComp), where)
            self.assertFalse(ast.unparse(node.iter).startswith("set("), where)


if __name__ == "__main__":
    unittest.main()
