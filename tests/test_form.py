"""The form of the package: those rules of its language that can be told from the files alone."""

import ast
import builtins
import os
import re
import unittest

import onceseen

FOLDER = os.path.dirname(onceseen.__file__)
FILES = sorted(name for name in os.listdir(FOLDER) if name != "__pycache__")

CALLED = {
    "len", "range", "enumerate", "zip", "min", "max", "sum", "abs", "sorted", "reversed", "int", "str", "bool", "list",
    "tuple", "dict", "set", "isinstance", "ord", "repr", "any", "all", "divmod", "pow", "map", "iter", "next", "type",
    "getattr", "hasattr", "setattr", "super",
}
DECORATORS = {"property", "classmethod", "staticmethod"}

# Where the interface lists its classes and functions.
INTERFACE = {
    "history": ["History"], "contents": ["Content"], "moments": ["moments_of", "is_of", "bar_of", "is_bar"],
    "ladders": ["Ladder"], "margins": ["Margins"], "floors": ["Floor"], "books": ["Book"], "runs": ["Run"],
    "work": ["work", "work_at", "least_work", "greatest_work", "mean_work", "turns", "growth", "widest"],
    "systems": ["System"], "certificates": ["never", "wrong_states", "is_certificate"],
    "badruns": ["bad_run", "is_bad_run"],
    "places": ["ends", "place_of", "places", "are_like", "keeps", "first_fault", "kinds"],
    "cares": ["is_safe", "freest", "needless", "mends"], "texts": ["text_of", "read_book", "line_of", "read_deed"],
    "claims": ["is_paper", "is_true", "paper_for"], "desk": ["Desk"],
}

# Words that stand nowhere in the code, comments and docstrings left out.
BARRED = {
    "register", "mro", "elements", "open", "input", "law", "version_info", "with_traceback", "add_note", "typing",
    "enum", "Enum", "Flag", "Generic", "Protocol", "ABC", "namedtuple", "dataclass", "overload", "contextmanager",
}
LIBRARY = {"heapq", "math", "itertools", "collections", "sys", "__future__"}


def read(name):
    with open(os.path.join(FOLDER, name), encoding="utf-8") as file:
        return file.read()


def trees():
    return [(name, ast.parse(read(name))) for name in FILES]


def nodes(kind):
    return [(name, node) for name, tree in trees() for node in ast.walk(tree) if isinstance(node, kind)]


def defined(tree):
    """The names of the functions and classes that a file itself defines at its top."""
    return [node.name for node in tree.body if isinstance(node, (ast.FunctionDef, ast.ClassDef))]


def assigned(tree):
    """The names that a file itself assigns at its top."""
    return [target.id for node in tree.body if isinstance(node, ast.Assign) for target in node.targets]


def bound(tree):
    """The names that the parameters and assignments, loops and comprehensions of functions give a meaning."""
    names = [node.arg for node in ast.walk(tree) if isinstance(node, ast.arg)]
    return names + [node.id for node in ast.walk(tree) if isinstance(node, ast.Name) and isinstance(node.ctx, ast.Store)]


def is_call_of(node, *names):
    return isinstance(node, ast.Call) and isinstance(node.func, ast.Name) and node.func.id in names


def plainly_number(node):
    """Whether the code shows that this is a number or a string, so that no class's own order is asked."""
    return isinstance(node, ast.Constant) or is_call_of(node, "int", "len", "str")


def properties():
    """The names of all properties of the package."""
    methods = [part for _, node in nodes(ast.ClassDef) for part in node.body if isinstance(part, ast.FunctionDef)]
    return {part.name for part in methods if "property" in [ast.unparse(one) for one in part.decorator_list]}


def methods_and_attributes(tree):
    """The names of the functions of a file, those in classes too, and of the attributes that it assigns."""
    names = [node.name for node in ast.walk(tree) if isinstance(node, ast.FunctionDef)]
    return names + [node.attr for node in ast.walk(tree)
                    if isinstance(node, ast.Attribute) and isinstance(node.ctx, ast.Store)]


def plain_off_name(node, barred):
    """Whether this is a name, or an attribute off a name that is none of the barred ones."""
    if isinstance(node, ast.Attribute):
        return isinstance(node.value, ast.Name) and node.attr not in barred
    return isinstance(node, ast.Name)


def plain_beside_star(node, barred):
    """Whether this may stand in a call with stars: plain as above, a literal, or a list, tuple or dict of these."""
    if isinstance(node, (ast.List, ast.Tuple)):
        return all(plain_beside_star(one, barred) for one in node.elts)
    if isinstance(node, ast.Dict):
        return all(one is not None and plain_beside_star(one, barred) for one in node.keys + node.values)
    return isinstance(node, ast.Constant) or plain_off_name(node, barred)


def place(node):
    """Where this stands in its file."""
    return (node.lineno, node.col_offset)


def keeps_star_rule(call, barred):
    """Whether a call keeps L7, Calls with stars: an argument ahead of all stars is free unless ** stands beside it."""
    stars = [arg for arg in call.args if isinstance(arg, ast.Starred)]
    doubled = [word.value for word in call.keywords if word.arg is None]
    if not stars and not doubled:
        return True
    if doubled and len(call.keywords) > 1 or not all(plain_off_name(one, barred) for one in doubled):
        return False
    if any(place(word) < place(star) for word in call.keywords for star in stars):
        return False
    beside = call.args if doubled else call.args[call.args.index(stars[0]):]
    beside = beside + [word.value for word in call.keywords]
    return all(plain_beside_star(one.value if isinstance(one, ast.Starred) else one, barred) for one in beside)


class Files(unittest.TestCase):

    def test_the_folder_holds_plain_python_files_alone(self):
        self.assertIn("__init__.py", FILES)
        for name in FILES:
            self.assertTrue(name == "__init__.py" or re.fullmatch(r"[a-z][a-z0-9_]*\.py", name), name)

    def test_sizes_and_characters(self):
        for name in FILES:
            text = read(name)
            self.assertTrue(text.endswith("\n") and len(text.split("\n")) <= 400, name)
            self.assertTrue(all(sign == "\n" or " " <= sign <= "~" for sign in text), name)
            self.assertLessEqual(max(map(len, text.split("\n"))), 120, name)

    def test_functions_have_at_most_40_lines(self):
        for name, node in nodes(ast.FunctionDef):
            self.assertLess(node.end_lineno - node.lineno, 40, (name, node.name))


class Parts(unittest.TestCase):

    def test_imports_name_the_file_that_defines(self):
        homes = {f"onceseen.{name[:-3]}": defined(tree) + assigned(tree) for name, tree in trees()}
        self.assertEqual(nodes(ast.Import), [])
        for name, node in nodes(ast.ImportFrom):
            self.assertEqual(node.level, 0, name)
            if node.module not in LIBRARY:
                for alias in node.names:
                    self.assertIsNone(alias.asname, name)
                    self.assertIn(alias.name, homes[node.module], name)

    def test_modules_hold_definitions_and_plain_names_alone(self):
        for name, tree in trees():
            for node in tree.body[1:]:
                self.assertIsInstance(node, (ast.ImportFrom, ast.FunctionDef, ast.ClassDef, ast.Assign), name)
            self.assertIsNotNone(ast.get_docstring(tree), name)

    def test_decorators(self):
        for name, node in nodes((ast.FunctionDef, ast.ClassDef)):
            for decorator in node.decorator_list:
                setter = isinstance(decorator, ast.Attribute) and decorator.attr == "setter"
                self.assertTrue(setter or decorator.id in DECORATORS, (name, node.name))

    def test_only_builtins_of_the_language_are_called(self):
        for name, node in nodes(ast.Call):
            if isinstance(node.func, ast.Name) and hasattr(builtins, node.func.id):
                self.assertTrue(node.func.id in CALLED or node.func.id.endswith("Error"), (name, node.func.id))

    def test_literals(self):
        for name, node in nodes(ast.Constant):
            self.assertNotIsInstance(node.value, (float, complex), name)
            self.assertFalse(isinstance(node.value, str) and "%" in node.value, name)

    def test_statements_and_signs_that_are_left_out(self):
        left_out = (ast.AsyncFunctionDef, ast.AsyncFor, ast.AsyncWith, ast.Await, ast.Div, ast.GeneratorExp, ast.Global)
        self.assertEqual([name for name, _ in nodes(left_out)], [])

    def test_the_interface_is_defined_where_it_is_listed(self):
        homes = {name[:-3]: defined(tree) for name, tree in trees()}
        for home, names in INTERFACE.items():
            for name in names:
                self.assertIn(name, homes[home])


class Stars(unittest.TestCase):

    def test_calls_with_stars(self):
        barred = properties()
        for name, node in nodes(ast.Call):
            self.assertTrue(keeps_star_rule(node, barred), (name, node.lineno, ast.unparse(node)))

    def test_no_method_hides_what_two_stars_ask_for(self):
        self.assertEqual([name for name, tree in trees() if "keys" in methods_and_attributes(tree)], [])

    def test_rows_that_keep_the_rule(self):
        for row in ("f(*xs)", "f(k, *xs)", "f(*xs, n, sep=n)", "f(**d)", "f(box.rows, **box.cares)", "f(g(x), *xs)",
                    "f(*[a, 1], (b, {'c': d}))", "f(g(x), h=1)", "f(*self._rows, other)", "Book(margins, **cares)"):
            self.assertTrue(keeps_star_rule(ast.parse(row, mode="eval").body, {"many"}), row)

    def test_rows_that_break_the_rule(self):
        for row in ("f(g(x), **d)", "f(*g(x))", "f(**g(x))", "f(*xs, g(x))", "f(*xs, n=g(x))", "f(*box.many)",
                    "f(box.many, **d)", "f(**box.many)", "f(a + b, **d)", "f(xs[0], **d)", "f(*[g(x)])",
                    "f([g(x)], **d)", "f(n=1, **d)", "f(**c, **d)", "f(n=1, *xs)", "f(**{'a': 1})", "f(*xs, a.b.c)",
                    "f(-n, *xs, **d)", "Book(Margins(Ladder(side, factors, edges), pairs), **cares)"):
            self.assertFalse(keeps_star_rule(ast.parse(row, mode="eval").body, {"many"}), row)


class Names(unittest.TestCase):

    def test_no_name_has_the_meaning_of_a_builtin(self):
        for name, tree in trees():
            for word in bound(tree) + defined(tree):
                self.assertFalse(hasattr(builtins, word), (name, word))

    def test_no_name_of_a_function_is_that_of_a_class_or_an_import_of_its_file(self):
        for name, tree in trees():
            imports = [alias.name for node in tree.body if isinstance(node, ast.ImportFrom) for alias in node.names]
            classes = [node.name for node in tree.body if isinstance(node, ast.ClassDef)]
            self.assertEqual(set(bound(tree)) & {*imports, *classes}, set(), name)

    def test_each_name_is_bound_once_in_its_file(self):
        for name, tree in trees():
            names = [alias.name for node in tree.body if isinstance(node, ast.ImportFrom) for alias in node.names]
            names += defined(tree) + assigned(tree)
            self.assertEqual(len(names), len(set(names)), name)

    def test_words_that_are_not_used(self):
        for name, tree in trees():
            words = bound(tree) + defined(tree)
            words += [node.attr for node in ast.walk(tree) if isinstance(node, ast.Attribute)]
            self.assertEqual(set(words) & BARRED, set(), name)

    def test_names_begin_with_at_most_one_underscore(self):
        for name, tree in trees():
            for word in bound(tree) + [node.attr for node in ast.walk(tree) if isinstance(node, ast.Attribute)]:
                self.assertFalse(word.startswith("__"), (name, word))

    def test_no_name_is_a_method_and_an_attribute_or_a_property_and_another_method(self):
        methods, properties, attributes = [], [], []
        for _, node in nodes(ast.ClassDef):
            for part in node.body:
                if isinstance(part, ast.FunctionDef):
                    plain = [decorator.id for decorator in part.decorator_list] != ["property"]
                    (methods if plain else properties).append(part.name)
        for _, node in nodes(ast.Attribute):
            if isinstance(node.ctx, ast.Store):
                attributes.append(node.attr)
        self.assertEqual(set(methods) & set(attributes), set())
        self.assertEqual(set(properties) & set(attributes), set())
        self.assertEqual(set(properties) & set(methods), set())


class Comparing(unittest.TestCase):
    """Where a class has an order, numbers are compared only where the code shows that they are numbers."""

    def test_sorted_takes_sets_or_plain_strings(self):
        for name, node in nodes(ast.Call):
            if is_call_of(node, "sorted"):
                one, = node.args
                plain = isinstance(one, ast.ListComp) and plainly_number(one.elt)
                self.assertTrue(plain or is_call_of(one, "set"), (name, node.lineno))

    def test_min_and_max_take_plain_numbers(self):
        for name, node in nodes(ast.Call):
            if is_call_of(node, "min", "max"):
                if len(node.args) == 1:
                    self.assertIsInstance(node.args[0], ast.ListComp, (name, node.lineno))
                    self.assertTrue(plainly_number(node.args[0].elt), (name, node.lineno))
                else:
                    self.assertTrue(any(plainly_number(arg) for arg in node.args), (name, node.lineno))

    def test_is_stands_beside_none_or_between_kinds(self):
        for name, node in nodes(ast.Compare):
            if any(isinstance(op, (ast.Is, ast.IsNot)) for op in node.ops):
                other = node.comparators[0]
                none = isinstance(other, ast.Constant) and other.value in (None, True, False)
                self.assertTrue(none or is_call_of(node.left, "type") and is_call_of(other, "type"), name)

    def test_no_list_is_sorted_in_its_place(self):
        for name, node in nodes(ast.Attribute):
            self.assertNotEqual(node.attr, "sort", name)


if __name__ == "__main__":
    unittest.main()
