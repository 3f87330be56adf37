"""The rules of LANGUAGE.md that can be read off the package's files one by one."""

import ast
import builtins
import io
import pathlib
import re
import tokenize
import unittest
import warnings

FOLDER = pathlib.Path(__file__).resolve().parent.parent / "holdplaces"

STATEMENTS = (
    ast.Assign, ast.AugAssign, ast.AnnAssign, ast.If, ast.While, ast.For, ast.Return, ast.Break, ast.Continue,
    ast.Pass, ast.Raise, ast.Assert, ast.Delete, ast.Try, ast.Expr, ast.FunctionDef, ast.ClassDef, ast.ImportFrom,
)
NO_EXPRESSIONS = (
    ast.GeneratorExp, ast.NamedExpr, ast.Div, ast.MatMult, ast.Await, ast.Yield, ast.YieldFrom,
)
AT_THE_TOP = (ast.Expr, ast.ImportFrom, ast.FunctionDef, ast.ClassDef, ast.Assign)
BUILTINS = set(
    "len range enumerate zip min max sum abs sorted reversed int str bool bytes list tuple dict set frozenset "
    "isinstance ord repr any all divmod Exception ValueError TypeError KeyError IndexError LookupError "
    "ZeroDivisionError ArithmeticError OverflowError RuntimeError NotImplementedError AttributeError "
    "StopIteration".split()
)
METHODS = {"__init__", "__eq__", "__repr__", "__str__", "__len__"}
NO_WORDS = (
    r"\b(type|typing|typing_extensions|enum|Enum|IntEnum|StrEnum|Flag|IntFlag|Generic|Protocol|ABC|ABCMeta|"
    r"namedtuple|NamedTuple|TypedDict|TYPE_CHECKING|abstractmethod)\b|dataclass|overload|contextmanager"
)
NO_NAMES = set(
    "register mro elements open input version_info with_traceback add_note attrgetter breakpoint builtins compile "
    "copyright credits delattr dir eval exec exit gc getattr globals hasattr help id importlib license locals "
    "methodcaller os quit setattr super sys vars __name__".split()
)

ON_BUILTINS = set(
    "append clear copy count endswith extend find get index insert isalnum isalpha isdigit islower isspace isupper "
    "items join keys ljust lower lstrip partition pop remove replace reverse rfind rjust rpartition rsplit rstrip "
    "setdefault split splitlines startswith strip update upper values zfill bit_length".split()
)
CHANGING = {"append", "clear", "extend", "insert", "pop", "remove", "reverse", "setdefault", "update", "sort"}
AT_ONCE = {"zip", "enumerate", "reversed", "range", "items", "keys", "values"}
TAKE_AT_ONCE = {"list", "tuple", "dict", "sorted", "sum", "any", "all", "enumerate", "zip", "min", "max"}
KEYWORDS = {
    "sorted": {"key", "reverse"}, "min": {"key", "default"}, "max": {"key", "default"}, "sum": {"start"},
    "enumerate": {"start"}, "zip": {"strict"},
}
KEYS = {"len", "int", "str", "abs", "sum", "min", "max", "tuple"}
KINDS = {"int", "str", "bool", "bytes", "list", "tuple", "dict"}
# what a value at the top may be made of
PLAIN = (
    ast.Constant, ast.Tuple, ast.List, ast.Dict, ast.Name, ast.Load, ast.UnaryOp, ast.USub, ast.BinOp, ast.Pow, ast.Add,
    ast.Sub, ast.Mult, ast.FloorDiv,
)


def sources():
    return {path.stem: path.read_text(encoding="utf-8") for path in sorted(FOLDER.glob("*.py"))}


def bound_names(tree):
    """All names that a file gives a meaning to, but those of its imports."""
    for node in ast.walk(tree):
        if isinstance(node, (ast.FunctionDef, ast.ClassDef)):
            yield node.name
        elif isinstance(node, ast.arg):
            yield node.arg
        elif isinstance(node, ast.Name) and isinstance(node.ctx, ast.Store):
            yield node.id
        elif isinstance(node, ast.ExceptHandler) and node.name:
            yield node.name


def top_names(tree):
    for node in tree.body:
        if isinstance(node, (ast.FunctionDef, ast.ClassDef)):
            yield node.name
        elif isinstance(node, ast.Assign):
            yield from (target.id for target in node.targets)


def called(node):
    """The name that a call calls, be it a function's or a method's."""
    if isinstance(node.func, ast.Name):
        return node.func.id
    return node.func.attr if isinstance(node.func, ast.Attribute) else None


def parents(tree):
    return {below: node for node in ast.walk(tree) for below in ast.iter_child_nodes(node)}


class Language(unittest.TestCase):
    def setUp(self):
        self.sources = sources()
        self.trees = {name: ast.parse(text) for name, text in self.sources.items()}

    def nodes(self, kind):
        for name, tree in self.trees.items():
            for node in ast.walk(tree):
                if isinstance(node, kind):
                    yield name, node

    def test_files(self):
        for path in FOLDER.iterdir():
            if path.name != "__pycache__":
                self.assertRegex(path.name, r"^(__init__|__main__|[a-z][a-z0-9_]*)\.py$")

    def test_sizes_signs_and_words(self):
        for name, text in self.sources.items():
            self.assertRegex(text, r"\A[ -~\n]*\Z", name)
            self.assertLessEqual(text.count("\n"), 400, name)
            self.assertLessEqual(max(len(line) for line in text.split("\n")), 120, name)
            self.assertIsNone(re.search(NO_WORDS, text), name)
        for name, node in self.nodes(ast.FunctionDef):
            self.assertLessEqual(node.end_lineno - node.lineno + 1, 40, (name, node.name))

    def test_statements_and_expressions(self):
        for name, node in self.nodes(ast.stmt):
            self.assertIsInstance(node, STATEMENTS, name)
        for name, node in self.nodes(NO_EXPRESSIONS):
            self.fail((name, ast.dump(node)))
        for name, node in self.nodes((ast.For, ast.While)):
            self.assertEqual(node.orelse, [], name)
        for name, tree in self.trees.items():
            for node in tree.body:
                self.assertIsInstance(node, AT_THE_TOP, name)

    def test_functions_and_classes_are_plain(self):
        for name, node in self.nodes((ast.FunctionDef, ast.ClassDef)):
            self.assertEqual(node.decorator_list, [], name)
        for name, node in self.nodes(ast.arguments):
            self.assertEqual((node.vararg, node.kwarg, node.posonlyargs), (None, None, []), name)
        for name, node in self.nodes(ast.ClassDef):
            self.assertLessEqual(len(node.bases), 1, name)

    def test_values(self):
        for name, node in self.nodes(ast.Constant):
            self.assertNotIsInstance(node.value, (float, complex), name)
            if isinstance(node.value, str):
                self.assertNotIn("%", node.value, name)
        for name, node in self.nodes(ast.Compare):
            for how, other in zip(node.ops, node.comparators):
                if isinstance(how, (ast.Is, ast.IsNot)):
                    self.assertIn(getattr(other, "value", "other"), (None, True, False), name)
        for name, node in self.nodes(ast.BinOp):
            if isinstance(node.op, ast.Pow):
                self.assertIsInstance(node.right, ast.Constant, name)

    def test_names(self):
        for name, tree in self.trees.items():
            known = BUILTINS | set(bound_names(tree)) | {
                alias.asname or alias.name for node in tree.body if isinstance(node, ast.ImportFrom)
                for alias in node.names
            }
            for bound in bound_names(tree):
                self.assertTrue(bound in METHODS or re.match(r"^[A-Za-z][A-Za-z0-9_]*$", bound), (name, bound))
                self.assertFalse(bound in vars(builtins) or bound in NO_NAMES, (name, bound))
            for node in ast.walk(tree):
                if isinstance(node, ast.Name):
                    self.assertIn(node.id, known, name)
            tops = list(top_names(tree))
            self.assertEqual(len(tops), len(set(tops)), name)

    def test_imports_name_the_file_that_defines_the_name_and_go_one_way(self):
        uses = {name: set() for name in self.trees}
        for name, node in self.nodes(ast.ImportFrom):
            self.assertRegex(node.module, r"^holdplaces\.[a-z_0-9]+$", name)
            self.assertIn(node, self.trees[name].body)
            uses[name].add(node.module.split(".")[1])
            for alias in node.names:
                self.assertIn(alias.name, list(top_names(self.trees[node.module.split(".")[1]])), name)
        while uses:
            free = [name for name, needs in uses.items() if not needs & set(uses)]
            self.assertTrue(free, f"these import one another: {sorted(uses)}")
            uses = {name: needs for name, needs in uses.items() if name not in free}

    def test_no_local_name_is_that_of_an_import_or_a_class(self):
        for name, tree in self.trees.items():
            taken = {alias.asname or alias.name for node in tree.body if isinstance(node, ast.ImportFrom)
                     for alias in node.names}
            self.assertEqual(taken & set(bound_names(tree)), set(), name)

    def test_no_local_name_is_that_of_a_function_of_its_file(self):
        for name, tree in self.trees.items():
            tops = set(top_names(tree))
            for node in ast.walk(tree):
                if isinstance(node, ast.arg):
                    self.assertNotIn(node.arg, tops, name)
            for function in tree.body:
                if isinstance(function, ast.FunctionDef):
                    local = {node.id for node in ast.walk(function)
                             if isinstance(node, ast.Name) and isinstance(node.ctx, ast.Store)}
                    self.assertEqual(local & tops, set(), (name, function.name))

    def test_nothing_that_python_warns_of(self):
        with warnings.catch_warnings():
            warnings.simplefilter("error")
            for name, text in self.sources.items():
                compile(text, name, "exec")

    def test_escapes(self):
        for name, text in self.sources.items():
            for token in tokenize.generate_tokens(io.StringIO(text).readline):
                if "\\" in token.string:
                    self.assertEqual(re.sub(r"\\[nt\\'\"]", "", token.string).count("\\"), 0, (name, token.string))

    def test_plain_f_strings(self):
        for name, node in self.nodes(ast.FormattedValue):
            self.assertIsNone(node.format_spec, name)
            for below in ast.walk(node.value):
                self.assertNotIsInstance(getattr(below, "value", None), (str, bytes), name)

    def test_values_at_the_top(self):
        for name, tree in self.trees.items():
            above = set()
            for node in tree.body:
                if isinstance(node, ast.FunctionDef):
                    above.add(node.name)
                if isinstance(node, ast.Assign):
                    self.assertEqual([type(target) for target in node.targets], [ast.Name], name)
                    self.check_plain(node.value, above, name)

    def check_plain(self, value, above, name):
        """A plain value that can be computed, with functions that stand above it where it is a table."""
        table = isinstance(value, (ast.List, ast.Tuple, ast.Dict))
        for node in ast.walk(value):
            self.assertIsInstance(node, PLAIN, (name, value.lineno))
            if isinstance(node, ast.Name):
                self.assertTrue(table and node.id in above, (name, node.id))
            if isinstance(node, (ast.List, ast.Dict)):
                self.assertIs(node, value, (name, value.lineno))
        computed = eval(compile(ast.Expression(value), name, "eval"), {function: function for function in above})
        self.assertLessEqual(len(repr(computed)), 50000, name)

    def test_tables_are_only_read(self):
        for name, tree in self.trees.items():
            above = parents(tree)
            tables = {node.targets[0].id for node in tree.body if isinstance(node, ast.Assign)
                      and isinstance(node.value, (ast.List, ast.Dict))}
            for node in ast.walk(tree):
                if not isinstance(node, ast.Name) or node.id not in tables or isinstance(node.ctx, ast.Store):
                    continue
                upper = above[node]
                read = isinstance(upper, ast.Subscript) and upper.value is node and isinstance(upper.ctx, ast.Load)
                sought = isinstance(upper, ast.Compare) and isinstance(upper.ops[0], (ast.In, ast.NotIn))
                self.assertTrue(read or sought, (name, node.id))
        for name, node in self.nodes(ast.ImportFrom):
            for alias in node.names:
                self.assertFalse(alias.name.isupper() and alias.name in self.tables(node.module), (name, alias.name))

    def tables(self, module):
        return {node.targets[0].id for node in self.trees[module.split(".")[1]].body
                if isinstance(node, ast.Assign) and isinstance(node.value, (ast.List, ast.Dict))}

    def test_what_is_called_is_a_name_or_a_method(self):
        for name, node in self.nodes(ast.Call):
            self.assertIsInstance(node.func, (ast.Name, ast.Attribute), (name, node.lineno))

    def test_own_functions_are_called_with_what_they_take(self):
        tops = {(name, node.name): node for name, tree in self.trees.items() for node in tree.body
                if isinstance(node, (ast.FunctionDef, ast.ClassDef))}
        for name, tree in self.trees.items():
            known = {key[1]: node for key, node in tops.items() if key[0] == name}
            for node in tree.body:
                if isinstance(node, ast.ImportFrom):
                    module = node.module.split(".")[1]
                    known.update({alias.name: tops[module, alias.name] for alias in node.names
                                  if (module, alias.name) in tops})
            for node in ast.walk(tree):
                if isinstance(node, ast.Call) and isinstance(node.func, ast.Name) and node.func.id in known:
                    self.assertEqual(node.keywords, [], (name, node.lineno))
                    self.check_taken(node, known[node.func.id], (name, node.lineno))

    def check_taken(self, call, taker, about):
        if isinstance(taker, ast.FunctionDef):
            self.assertEqual(taker.args.defaults, [], about)
            self.assertEqual(len(call.args), len(taker.args.args), about)
            return
        made = [node for node in taker.body if isinstance(node, ast.FunctionDef) and node.name == "__init__"]
        if made:
            self.assertEqual(len(call.args), len(made[0].args.args) - 1, about)
        else:
            # an error without an __init__ of its own is handed texts
            self.assertTrue(all(isinstance(arg, ast.JoinedStr) or isinstance(getattr(arg, "value", None), str)
                                for arg in call.args), about)

    def test_attributes_and_methods_of_classes(self):
        methods, fields = set(), set()
        for name, node in self.nodes(ast.ClassDef):
            names = [below.name for below in node.body if isinstance(below, ast.FunctionDef)]
            self.assertEqual(len(names), len(set(names)), name)
            methods |= set(names)
            for below in node.body:
                if isinstance(below, ast.Expr):
                    self.assertIsInstance(below.value, ast.Constant, name)
                else:
                    self.assertIsInstance(below, ast.FunctionDef, name)
        for name, node in self.nodes(ast.Attribute):
            if isinstance(node.ctx, ast.Store):
                self.assertIsInstance(node.value, ast.Name, (name, node.lineno))
                fields.add(node.attr)
        self.assertEqual(methods & fields, set())
        builtin = set().union(*(dir(kind) for kind in (str, int, list, dict, set, bytes, tuple, bool)))
        self.assertEqual((methods - METHODS | fields) & (builtin | NO_NAMES | {"args", "format", "sort"}), set())
        for name, tree in self.trees.items():
            above = parents(tree)
            for node in ast.walk(tree):
                if isinstance(node, ast.Attribute) and isinstance(node.ctx, ast.Load):
                    upper = above[node]
                    if not (isinstance(upper, ast.Call) and upper.func is node):
                        self.assertIn(node.attr, fields, (name, node.lineno))

    def test_no_handler(self):
        # L19 allows few; up to now the package does without
        for name, node in self.nodes((ast.Try, ast.Delete, ast.Lambda)):
            self.fail((name, node.lineno))

    def test_classes_are_called_or_stand_below_others(self):
        classes = {node.name for _, node in self.nodes(ast.ClassDef)}
        for name, tree in self.trees.items():
            above = parents(tree)
            for node in ast.walk(tree):
                if isinstance(node, ast.Name) and node.id in classes:
                    upper = above[node]
                    called_there = isinstance(upper, ast.Call) and upper.func is node
                    self.assertTrue(called_there or isinstance(upper, ast.ClassDef), (name, node.lineno))

    def test_no_set_and_no_star(self):
        # sets are allowed in a few places only; up to now the package does without
        for name, node in self.nodes((ast.Set, ast.SetComp, ast.Starred)):
            self.fail((name, ast.dump(node)))
        for name, node in self.nodes(ast.Name):
            self.assertNotIn(node.id, ("set", "frozenset"), name)

    def test_builtins_are_called_where_they_stand(self):
        for name, tree in self.trees.items():
            above = parents(tree)
            for node in ast.walk(tree):
                if not isinstance(node, ast.Name) or node.id not in BUILTINS or node.id[0].isupper():
                    continue
                upper = above[node]
                if isinstance(upper, ast.Tuple):
                    upper = above[upper]
                if isinstance(upper, ast.keyword):
                    self.assertEqual(upper.arg, "key", name)
                    self.assertIn(node.id, KEYS, name)
                elif isinstance(upper, ast.Call) and called(upper) == "isinstance" and upper.func is not node:
                    self.assertIn(node.id, KINDS, name)
                else:
                    self.assertTrue(isinstance(upper, ast.Call) and upper.func is node, (name, node.lineno))

    def test_keywords(self):
        for name, node in self.nodes(ast.Call):
            for keyword in node.keywords:
                if isinstance(node.func, ast.Attribute) or called(node) in BUILTINS:
                    self.assertIn(keyword.arg, KEYWORDS.get(called(node), ()), (name, node.lineno))

    def test_methods(self):
        own = {below.name for _, node in self.nodes(ast.ClassDef) for below in node.body
               if isinstance(below, ast.FunctionDef)}
        for name, tree in self.trees.items():
            above = parents(tree)
            for node in ast.walk(tree):
                if isinstance(node, ast.Attribute) and isinstance(above[node], ast.Call) and above[node].func is node:
                    self.assertIn(node.attr, ON_BUILTINS | own, (name, node.lineno))

    def test_iterated_at_once(self):
        for name, tree in self.trees.items():
            above = parents(tree)
            for node in ast.walk(tree):
                if isinstance(node, ast.Call) and called(node) in AT_ONCE:
                    upper = above[node]
                    if isinstance(upper, ast.Call):
                        self.assertIn(called(upper), TAKE_AT_ONCE, (name, node.lineno))
                        self.assertIs(upper.args[0], node, (name, node.lineno))
                    else:
                        self.assertIsInstance(upper, (ast.For, ast.comprehension), (name, node.lineno))
                        self.assertIs(upper.iter, node, (name, node.lineno))

    def test_what_a_loop_goes_through_is_not_changed_in_it(self):
        for name, loop in self.nodes(ast.For):
            gone_through = {node.id for node in ast.walk(loop.iter) if isinstance(node, ast.Name)}
            for node in (below for part in loop.body for below in ast.walk(part)):
                if isinstance(node, ast.Call) and called(node) in CHANGING and isinstance(node.func, ast.Attribute):
                    changed = node.func.value
                elif isinstance(node, ast.Subscript) and not isinstance(node.ctx, ast.Load):
                    changed = node.value
                else:
                    continue
                self.assertNotIn(getattr(changed, "id", None), gone_through, (name, node.lineno))

    def test_errors_are_made_where_they_are_raised(self):
        classes = {node.name for _, node in self.nodes(ast.ClassDef)}
        for name, node in self.nodes(ast.Raise):
            self.assertIsInstance(node.exc, ast.Call, (name, node.lineno))
            self.assertIn(called(node.exc), classes, (name, node.lineno))


if __name__ == "__main__":
    unittest.main()
