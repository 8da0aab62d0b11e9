"""The form of the package's own files: the rules of the language part that can be seen in the code."""

import ast
import builtins
import pathlib
import re
import unittest

PACKAGE = pathlib.Path(__file__).resolve().parent.parent / "weirwatch"

OWN_NAMES = """len range enumerate zip min max sum abs sorted reversed int str bool list tuple dict set frozenset
isinstance ord repr any all divmod Exception ValueError TypeError KeyError IndexError LookupError ZeroDivisionError
ArithmeticError OverflowError RuntimeError NotImplementedError AttributeError StopIteration""".split()

OWN_METHODS = """append clear copy count endswith extend find get index insert isalnum isalpha isdigit islower isspace
isupper items join keys ljust lower lstrip partition pop remove replace reverse rfind rjust rpartition rsplit rstrip
setdefault split splitlines startswith strip update upper values zfill bit_length""".split()

FREE_NODES = """Module FunctionDef ClassDef arguments arg Return Assign AugAssign For While If Raise Try Expr Pass Break
Continue ImportFrom alias ExceptHandler BoolOp And Or BinOp Add Sub Mult FloorDiv Mod Pow LShift RShift BitOr BitXor
BitAnd UnaryOp Invert Not UAdd USub Lambda IfExp Dict Set ListComp comprehension Compare Eq NotEq Lt LtE Gt GtE Is
IsNot In NotIn Call keyword JoinedStr FormattedValue Constant Attribute Subscript Slice Name List Tuple Load
Store""".split()

CLASS_METHODS = "__init__ __eq__ __repr__ __str__ __len__".split()

UNUSED_NAMES = """register mro elements open input version_info with_traceback add_note format format_map attrgetter
breakpoint compile copyright credits delattr dir eval exec exit gc getattr globals hasattr help id importlib license
locals methodcaller os quit setattr super vars sys chr print""".split()

UNUSED_WORDS = """type typing typing_extensions enum Enum IntEnum StrEnum Flag IntFlag Generic Protocol ABC ABCMeta
namedtuple NamedTuple TypedDict TYPE_CHECKING abstractmethod""".split()


WALKED = "zip enumerate reversed range items keys values".split()

WALKING = "list tuple dict sorted sum any all enumerate zip".split()

KEYWORDS = {"sorted": ("key", "reverse"), "min": ("key", "default"), "max": ("key", "default"), "sum": ("start",),
            "enumerate": ("start",), "zip": ("strict",)}

CHANGING = "append clear extend insert pop remove reverse setdefault update".split()

# Names of Python's own values that methods, or values, of own objects may have all the same.
FREE_METHODS = OWN_METHODS + ["add", "discard"]
FREE_VALUES = "count index title find get join lower upper split strip copy add".split()


def package_files():
    return sorted(path for path in PACKAGE.rglob("*") if "__pycache__" not in path.parts)


def module_name(path):
    return "weirwatch." + path.stem


def tree_of(path):
    return ast.parse(path.read_text(encoding="utf-8"))


def nodes_of(kind):
    for path in package_files():
        for node in ast.walk(tree_of(path)):
            if isinstance(node, kind):
                yield path.name, node


def bound_names(tree):
    """Every name that the file gives to something."""
    for node in ast.walk(tree):
        if isinstance(node, (ast.FunctionDef, ast.ClassDef)):
            yield node.name
        if isinstance(node, ast.arg):
            yield node.arg
        if isinstance(node, ast.Name) and isinstance(node.ctx, ast.Store):
            yield node.id
        if isinstance(node, ast.Attribute) and isinstance(node.ctx, ast.Store):
            yield node.attr
        if isinstance(node, ast.ExceptHandler) and node.name:
            yield node.name


def top_names(tree):
    for node in tree.body:
        if isinstance(node, (ast.FunctionDef, ast.ClassDef)):
            yield node.name
        if isinstance(node, ast.Assign):
            yield node.targets[0].id


def names_within(node):
    return [id(part) for part in ast.walk(node) if isinstance(part, ast.Name)]


def free_class_places(tree):
    """The names by which a class may stand: called, a base, beside isinstance, taken by a handler."""
    places = []
    for node in ast.walk(tree):
        if isinstance(node, ast.Call):
            places.append(id(node.func))
            if isinstance(node.func, ast.Name) and node.func.id == "isinstance":
                places.extend(names_within(node.args[1]))
        if isinstance(node, ast.ClassDef):
            places.extend(id(base) for base in node.bases)
        if isinstance(node, ast.ExceptHandler) and node.type:
            places.extend(names_within(node.type))
    return places


def called_name(node):
    """The name by which a call calls, be it a function's or a method's."""
    if not isinstance(node, ast.Call):
        return None
    return node.func.id if isinstance(node.func, ast.Name) else getattr(node.func, "attr", None)


def walked_places(tree):
    """The calls that are walked on the spot: behind `in`, as the first thing in what walks, alone in min and max."""
    places = []
    for node in ast.walk(tree):
        if isinstance(node, (ast.For, ast.comprehension)):
            places.append(id(node.iter))
        if isinstance(node, ast.Call) and node.args:
            alone = called_name(node) in ("min", "max", "join") and len(node.args) == 1
            if alone or called_name(node) in WALKING:
                places.append(id(node.args[0]))
    return places


def set_places(tree):
    """The calls of set that stand beside `in`, `==` or `!=`, or straight within sorted or len."""
    places = []
    for node in ast.walk(tree):
        if isinstance(node, ast.Call) and called_name(node) in ("sorted", "len") and not node.keywords:
            places.append(id(node.args[0]))
        if isinstance(node, ast.Compare) and isinstance(node.ops[0], (ast.In, ast.NotIn, ast.Eq, ast.NotEq)):
            places.extend(id(part) for part in node.comparators)
    return places


def read_places(tree):
    """The names of which a part is read by an index, or that are asked with `in`."""
    places = []
    for node in ast.walk(tree):
        if isinstance(node, ast.Subscript) and isinstance(node.ctx, ast.Load):
            places.append(id(node.value))
        if isinstance(node, ast.Compare) and isinstance(node.ops[0], (ast.In, ast.NotIn)):
            places.extend(id(part) for part in node.comparators)
    return places


def stored_in(outer, inner):
    """The names that a function gives values to, but within the inner one."""
    within = [id(part) for part in ast.walk(inner)] if inner else []
    for node in ast.walk(outer):
        if isinstance(node, ast.Name) and isinstance(node.ctx, ast.Store) and id(node) not in within:
            yield node.id


def walked_by(loop):
    """What the loop walks, itself or through enumerate, zip, reversed, items and their like, as it is written."""
    walked, found = [loop.iter], []
    while walked:
        node = walked.pop()
        if called_name(node) in WALKED:
            walked.extend(node.args if isinstance(node.func, ast.Name) else [node.func.value])
        else:
            found.append(ast.unparse(node))
    return found


def changed_in(loop):
    """What is changed within the loop, as it is written: by a method that changes, or at an index."""
    for node in ast.walk(loop):
        if called_name(node) in CHANGING and isinstance(node.func, ast.Attribute):
            yield ast.unparse(node.func.value)
        if isinstance(node, ast.Subscript) and isinstance(node.ctx, ast.Store):
            yield ast.unparse(node.value)


def method_names():
    names = []
    for _, node in nodes_of(ast.ClassDef):
        names.extend(part.name for part in node.body if isinstance(part, ast.FunctionDef))
    return names


class Files(unittest.TestCase):
    def test_files(self):
        names = [path.name for path in package_files()]
        self.assertIn("__init__.py", names)
        for name in names:
            self.assertRegex(name, r"^[a-z][a-z0-9_]*\.py$|^__init__\.py$|^__main__\.py$")

    def test_sizes_and_signs(self):
        for path in package_files():
            text = path.read_bytes().decode("utf-8")
            self.assertRegex(text, r"\A[ -~\n]*\Z", path.name)
            self.assertLessEqual(len(text.splitlines()), 400, path.name)
            for line in text.splitlines():
                self.assertLessEqual(len(line), 120, path.name)

    def test_sizes_of_functions(self):
        for name, node in nodes_of(ast.FunctionDef):
            self.assertLessEqual(node.end_lineno - node.lineno + 1, 40, f"{name} {node.name}")

    def test_words_that_stand_nowhere(self):
        for path in package_files():
            words = re.findall(r"\w+", path.read_text(encoding="utf-8"))
            self.assertEqual([word for word in words if word in UNUSED_WORDS], [], path.name)
            for part in ("dataclass", "overload", "contextmanager"):
                self.assertEqual([word for word in words if part in word], [], path.name)

    def test_tops(self):
        for path in package_files():
            body = tree_of(path).body
            self.assertIsInstance(body[0], ast.Expr, path.name)
            for node in body[1:]:
                self.assertIsInstance(node, (ast.ImportFrom, ast.FunctionDef, ast.ClassDef, ast.Assign), path.name)
            names = list(top_names(tree_of(path)))
            self.assertEqual(len(names), len(set(names)), path.name)


class Imports(unittest.TestCase):
    def test_from_the_file_that_defines_the_name(self):
        tops = {module_name(path): set(top_names(tree_of(path))) for path in package_files()}
        for name, node in nodes_of(ast.ImportFrom):
            self.assertEqual(node.level, 0, name)
            for alias in node.names:
                self.assertIn(alias.name, tops.get(node.module, ()), f"{name} {node.module}")

    def test_no_two_files_draw_from_one_another(self):
        draws = {module_name(path): set() for path in package_files()}
        for name, node in nodes_of(ast.ImportFrom):
            draws["weirwatch." + name[:-len(".py")]].add(node.module)
        while draws:
            free = [name for name, drawn in draws.items() if not drawn & set(draws)]
            self.assertNotEqual(free, [], draws)
            draws = {name: drawn for name, drawn in draws.items() if name not in free}


class Code(unittest.TestCase):
    def test_statements_and_expressions(self):
        for name, node in nodes_of(ast.AST):
            self.assertIn(node.__class__.__name__, FREE_NODES, f"{name} {getattr(node, 'lineno', '')}")

    def test_functions(self):
        for name, node in nodes_of(ast.FunctionDef):
            given = node.args
            self.assertEqual([given.vararg, given.kwarg, given.kwonlyargs, given.posonlyargs], [None, None, [], []])
            self.assertEqual([node.decorator_list, node.returns], [[], None], f"{name} {node.name}")

    def test_classes(self):
        for name, node in nodes_of(ast.ClassDef):
            self.assertLessEqual(len(node.bases), 1, node.name)
            self.assertEqual([node.decorator_list, node.keywords], [[], []], node.name)
            for part in node.body:
                written = isinstance(part, ast.Expr) and isinstance(part.value, ast.Constant)
                self.assertTrue(written or isinstance(part, ast.FunctionDef), f"{name} {node.name}")
            methods = [part.name for part in node.body if isinstance(part, ast.FunctionDef)]
            self.assertEqual(len(methods), len(set(methods)), node.name)

    def test_classes_are_not_kept_or_handed_on(self):
        classes = [node.name for _, node in nodes_of(ast.ClassDef)]
        for path in package_files():
            tree = tree_of(path)
            free = free_class_places(tree)
            for node in ast.walk(tree):
                if isinstance(node, ast.Name) and node.id in classes:
                    self.assertIn(id(node), free, f"{path.name} {node.lineno}")

    def test_errors_are_made_on_the_spot(self):
        for name, node in nodes_of(ast.Raise):
            self.assertIsInstance(node.exc, ast.Call, f"{name} {node.lineno}")

    def test_what_is_walked_is_not_kept(self):
        for name, node in nodes_of((ast.Assign, ast.Return)):
            kept = node.value.func if isinstance(node.value, ast.Call) else None
            if isinstance(kept, ast.Name):
                self.assertNotIn(kept.id, ("zip", "enumerate", "reversed", "range", "set"), f"{name} {node.lineno}")

    def test_what_is_walked_is_walked_on_the_spot(self):
        for path in package_files():
            tree = tree_of(path)
            walked = walked_places(tree)
            for node in ast.walk(tree):
                if called_name(node) in WALKED:
                    self.assertIn(id(node), walked, f"{path.name} {node.lineno}")

    def test_what_a_loop_walks_is_not_changed_in_it(self):
        for name, loop in nodes_of(ast.For):
            self.assertEqual(set(walked_by(loop)) & set(changed_in(loop)), set(), f"{name} {loop.lineno}")

    def test_no_value_is_given_to_a_class_or_a_top(self):
        for path in package_files():
            tree = tree_of(path)
            tops = list(top_names(tree))
            for node in ast.walk(tree):
                if isinstance(node, ast.Attribute) and isinstance(node.ctx, ast.Store):
                    self.assertIsInstance(node.value, ast.Name, f"{path.name} {node.lineno}")
                    self.assertNotIn(node.value.id, tops, f"{path.name} {node.lineno}")

    def test_init_gives_back_nothing(self):
        for name, node in nodes_of(ast.FunctionDef):
            if node.name == "__init__":
                returns = [part for part in ast.walk(node) if isinstance(part, ast.Return)]
                self.assertEqual(returns, [], f"{name} {node.lineno}")

    def test_sets_are_not_kept_or_walked(self):
        for path in package_files():
            tree = tree_of(path)
            free = set_places(tree)
            for node in ast.walk(tree):
                if called_name(node) in ("set", "frozenset") or isinstance(node, ast.Set):
                    self.assertIn(id(node), free, f"{path.name} {node.lineno}")

    def test_keywords(self):
        own = {node.name for _, node in nodes_of(ast.FunctionDef)}
        for name, node in nodes_of(ast.Call):
            for keyword in node.keywords:
                free = called_name(node) in own or keyword.arg in KEYWORDS.get(called_name(node), ())
                self.assertTrue(free, f"{name} {node.lineno}")

    def test_no_annotations_and_plain_defaults(self):
        for name, node in nodes_of(ast.arg):
            self.assertIsNone(node.annotation, f"{name} {node.lineno}")
        for name, node in nodes_of((ast.FunctionDef, ast.Lambda)):
            for default in node.args.defaults:
                self.assertIsInstance(default, ast.Constant, f"{name} {node.lineno}")

    def test_one_lambda_on_a_line(self):
        rows = [(name, node.lineno) for name, node in nodes_of(ast.Lambda)]
        self.assertEqual(len(rows), len(set(rows)))

    def test_values_of_tops_hold_nothing_that_can_be_changed(self):
        for path in package_files():
            for node in tree_of(path).body:
                if isinstance(node, ast.Assign):
                    within = [part for part in ast.walk(node.value) if part is not node.value]
                    kinds = [part for part in within if isinstance(part, (ast.List, ast.Dict, ast.Set, ast.Call))]
                    self.assertEqual(kinds, [], f"{path.name} {node.lineno}")
                    kinds = (ast.Constant, ast.Tuple, ast.List, ast.Dict)
                    self.assertIsInstance(node.value, kinds, f"{path.name} {node.lineno}")

    def test_lists_and_dicts_of_tops_are_only_read(self):
        for path in package_files():
            tree = tree_of(path)
            tops = [node.targets[0].id for node in tree.body
                    if isinstance(node, ast.Assign) and isinstance(node.value, (ast.List, ast.Dict))]
            free = read_places(tree)
            for node in ast.walk(tree):
                if isinstance(node, ast.Name) and node.id in tops and isinstance(node.ctx, ast.Load):
                    self.assertIn(id(node), free, f"{path.name} {node.lineno}")

    def test_no_function_assigns_what_is_around_it(self):
        for name, outer in nodes_of(ast.FunctionDef):
            for inner in ast.walk(outer):
                if isinstance(inner, ast.FunctionDef) and inner is not outer:
                    around = {part.arg for part in outer.args.args} | set(stored_in(outer, inner))
                    self.assertEqual(around & set(stored_in(inner, None)), set(), f"{name} {inner.name}")

    def test_methods_are_not_handed_on(self):
        methods = set(method_names())
        for path in package_files():
            tree = tree_of(path)
            called = [id(node.func) for node in ast.walk(tree) if isinstance(node, ast.Call)]
            for node in ast.walk(tree):
                if isinstance(node, ast.Attribute) and node.attr in methods:
                    self.assertIn(id(node), called, f"{path.name} {node.lineno}")

    def test_assignments_comprehensions_and_handlers(self):
        for name, node in nodes_of((ast.Assign, ast.ListComp, ast.For, ast.While, ast.Try, ast.ExceptHandler)):
            row = f"{name} {node.lineno}"
            if isinstance(node, ast.Assign):
                self.assertEqual(len(node.targets), 1, row)
            if isinstance(node, ast.ListComp):
                self.assertEqual(len(node.generators), 1, row)
                self.assertLessEqual(len(node.generators[0].ifs), 1, row)
            if isinstance(node, (ast.For, ast.While)):
                self.assertEqual(node.orelse, [], row)
            if isinstance(node, ast.Try):
                self.assertEqual(node.finalbody, [], row)
            if isinstance(node, ast.ExceptHandler):
                self.assertNotIn(ast.unparse(node.type) if node.type else "", ("", "Exception", "TypeError"), row)

    def test_is_stands_beside_none_and_truths(self):
        for name, node in nodes_of(ast.Compare):
            for operator, other in zip(node.ops, node.comparators):
                if isinstance(operator, (ast.Is, ast.IsNot)):
                    self.assertIn(ast.unparse(other), ("None", "True", "False"), f"{name} {node.lineno}")

    def test_plain_values(self):
        for name, node in nodes_of(ast.Constant):
            self.assertIn(node.value.__class__, (int, str, bool, None.__class__), f"{name} {node.lineno}")
            if isinstance(node.value, str):
                self.assertNotIn("%", node.value, f"{name} {node.lineno}")

    def test_exponents_are_written(self):
        for name, node in nodes_of(ast.BinOp):
            if isinstance(node.op, ast.Pow):
                self.assertIn(ast.unparse(node.right), [str(k) for k in range(65)], f"{name} {node.lineno}")

    def test_texts_with_braces_hold_names_alone(self):
        for name, node in nodes_of(ast.FormattedValue):
            self.assertIsInstance(node.value, ast.Name, f"{name} {node.lineno}")
            self.assertIsNone(node.format_spec, f"{name} {node.lineno}")


class Names(unittest.TestCase):
    def test_plain_and_free(self):
        for path in package_files():
            for name in bound_names(tree_of(path)):
                if name not in CLASS_METHODS:
                    self.assertRegex(name, r"^[A-Za-z][A-Za-z0-9_]*$", path.name)
                    self.assertNotIn(name, UNUSED_NAMES, path.name)

    def test_none_like_pythons_own(self):
        methods = method_names()
        for path in package_files():
            for name in bound_names(tree_of(path)):
                if name not in methods:
                    self.assertFalse(hasattr(builtins, name), f"{path.name} {name}")

    def test_no_local_is_called_like_a_class_or_an_import(self):
        for path in package_files():
            tree = tree_of(path)
            taken = [node.name for node in tree.body if isinstance(node, ast.ClassDef)]
            for node in tree.body:
                if isinstance(node, ast.ImportFrom):
                    taken.extend(alias.asname or alias.name for alias in node.names)
            for node in ast.walk(tree):
                local = node.arg if isinstance(node, ast.arg) else None
                if isinstance(node, ast.Name) and isinstance(node.ctx, ast.Store):
                    local = node.id
                self.assertNotIn(local, taken, path.name)

    def test_pythons_own_that_are_read(self):
        for name, node in nodes_of(ast.Name):
            if hasattr(builtins, node.id):
                self.assertIn(node.id, OWN_NAMES, f"{name} {node.lineno}")

    def test_methods_and_values_have_unlike_names(self):
        values = [node.attr for _, node in nodes_of(ast.Attribute) if isinstance(node.ctx, ast.Store)]
        self.assertEqual(sorted(set(values) & set(method_names())), [])

    def test_methods_and_values_are_called_unlike_those_of_pythons_own(self):
        own = {name for kind in (str, int, list, dict, set, bytes) for name in vars(kind) if not name.startswith("__")}
        values = [node.attr for _, node in nodes_of(ast.Attribute) if isinstance(node.ctx, ast.Store)]
        self.assertEqual(sorted(own & set(method_names()) - set(FREE_METHODS)), [])
        self.assertEqual(sorted(own & set(values) - set(FREE_VALUES)), [])
        self.assertEqual(sorted({"args", "sort", "encode"} & set(values)), [])

    def test_attributes_are_own_or_listed(self):
        values = [node.attr for _, node in nodes_of(ast.Attribute) if isinstance(node.ctx, ast.Store)]
        known = set(OWN_METHODS + values + method_names())
        for name, node in nodes_of(ast.Attribute):
            self.assertIn(node.attr, known, f"{name} {node.lineno}")


if __name__ == "__main__":
    unittest.main()
