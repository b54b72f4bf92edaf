"""Those rules of LANGUAGE.md that a glance at the syntax can tell, for the files of the package."""

import ast
import builtins
import unittest
from pathlib import Path

from operators import Package

PACKAGE = Path(__file__).resolve().parent.parent / "whatopened"
ALLOWED = set(
    "len range enumerate zip min max sum abs sorted reversed int str bool bytes list tuple dict set isinstance ord repr"
    " any all divmod iter next ValueError KeyError IndexError LookupError TypeError NotImplemented".split()
)
BARRED_WORDS = set(
    "type typing typing_extensions enum Enum IntEnum StrEnum Flag IntFlag Generic Protocol ABC ABCMeta namedtuple"
    " NamedTuple TypedDict TYPE_CHECKING abstractmethod".split()
)
BARRED_PARTS = ("dataclass", "overload", "contextmanager")
WALKS = ("list", "tuple", "dict", "sorted", "sum", "any", "all", "enumerate", "zip", "min", "max")
PLAIN_CALLS = ("sum", "min", "max", "sorted", "any", "all")


def sources():
    """The path, the text and the syntax tree of each file of the package."""
    for path in sorted(PACKAGE.glob("*.py")):
        text = path.read_text(encoding="utf-8")
        yield path.name, text, ast.parse(text)


def words_of(text):
    """The words of a text, cut at whatever is neither a letter, a digit nor _."""
    return "".join(sign if sign.isalnum() or sign == "_" else " " for sign in text).split()


def functions_of(tree):
    return [node for node in ast.walk(tree) if isinstance(node, ast.FunctionDef)]


def is_lazy(call):
    """Whether a call gives what must be iterated on the spot: L23."""
    if isinstance(call.func, ast.Name):
        return call.func.id in ("zip", "enumerate", "reversed", "range")
    return isinstance(call.func, ast.Attribute) and call.func.attr in ("items", "keys", "values")


def iterated_at_once(tree):
    """What stands after the in of a loop or a comprehension, or first in a call that walks through it."""
    found = {node.iter for node in ast.walk(tree) if isinstance(node, (ast.For, ast.comprehension))}
    for node in ast.walk(tree):
        if isinstance(node, ast.Call) and isinstance(node.func, ast.Name) and node.func.id in WALKS:
            found |= set(node.args[:1])
    return found


class TheLanguage(unittest.TestCase):
    def test_the_folder_contains_plain_python_files_only(self):
        for path in PACKAGE.iterdir():
            if path.name != "__pycache__":
                self.assertTrue(path.is_file() and path.suffix == ".py" and path.name == path.name.lower(), path.name)
        self.assertTrue((PACKAGE / "__init__.py").is_file())

    def test_signs_and_sizes(self):
        for name, text, tree in sources():
            lines = text.split("\n")
            self.assertLessEqual(len(lines), 399, name)
            self.assertLessEqual(max(len(line) for line in lines), 120, name)
            self.assertTrue(all(sign == "\n" or " " <= sign <= "~" for sign in text), name)
            for function in functions_of(tree):
                self.assertLessEqual(function.end_lineno - function.lineno + 1, 40, function.name)

    def test_words_that_do_not_occur(self):
        for name, text, tree in sources():
            self.assertEqual(BARRED_WORDS & set(words_of(text)), set(), name)
            for part in BARRED_PARTS:
                self.assertNotIn(part, text, name)

    def test_what_stands_at_module_level(self):
        allowed = (ast.ImportFrom, ast.FunctionDef, ast.ClassDef, ast.Assign)
        for name, text, tree in sources():
            for at, node in enumerate(tree.body):
                docstring = at == 0 and isinstance(node, ast.Expr) and isinstance(node.value, ast.Constant)
                self.assertTrue(docstring or isinstance(node, allowed), f"{name}:{node.lineno}")

    def test_imports_name_the_file_that_defines_the_name(self):
        defined = {}
        for name, text, tree in sources():
            found = [node.name for node in tree.body if isinstance(node, (ast.FunctionDef, ast.ClassDef))]
            for node in tree.body:
                if isinstance(node, ast.Assign):
                    found += [target.id for target in node.targets]
            self.assertEqual(len(found), len(set(found)), name)
            defined["whatopened." + name[:-3]] = found
        for name, text, tree in sources():
            for node in ast.walk(tree):
                self.assertNotIsInstance(node, ast.Import)
                if isinstance(node, ast.ImportFrom):
                    for alias in node.names:
                        self.assertIn(alias.name, defined[node.module], f"{name}:{node.lineno}")

    def test_no_two_files_import_from_each_other(self):
        needs = {
            "whatopened." + name[:-3]: [node.module for node in tree.body if isinstance(node, ast.ImportFrom)]
            for name, text, tree in sources()
        }
        done = []
        while len(done) < len(needs):
            ready = [one for one in needs if one not in done and all(other in done for other in needs[one])]
            self.assertTrue(ready, "a ring of imports")
            done += ready

    def test_builtins_that_are_used_and_names_that_hide_none(self):
        hidden = set(dir(builtins))
        for name, text, tree in sources():
            for node in ast.walk(tree):
                if isinstance(node, ast.Name) and node.id in hidden:
                    self.assertIsInstance(node.ctx, ast.Load, f"{name}:{node.lineno}")
                    self.assertIn(node.id, ALLOWED, f"{name}:{node.lineno}")
                if isinstance(node, ast.arg):
                    self.assertNotIn(node.arg, hidden, f"{name}:{node.lineno}")

    def test_names_are_plain(self):
        for name, text, tree in sources():
            for node in ast.walk(tree):
                found = [getattr(node, part, None) for part in ("id", "attr", "arg")]
                if isinstance(node, ast.ClassDef):
                    found.append(node.name)
                for word in found:
                    self.assertFalse(isinstance(word, str) and word.startswith("_"), f"{name}: {word}")

    def test_statements_and_signs_that_do_not_occur(self):
        for name, text, tree in sources():
            for node in ast.walk(tree):
                self.assertNotIsInstance(node, (ast.Global, ast.AsyncFunctionDef, ast.Await, ast.Div), name)
                if isinstance(node, (ast.FunctionDef, ast.ClassDef)):
                    self.assertEqual(node.decorator_list, [], f"{name}:{node.lineno}")
                if isinstance(node, ast.Constant):
                    self.assertNotIsInstance(node.value, (float, complex), name)
                    self.assertFalse(isinstance(node.value, str) and "%" in node.value, f"{name}:{node.lineno}")

    def test_is_stands_beside_none_true_and_false_only(self):
        for name, text, tree in sources():
            for node in ast.walk(tree):
                if isinstance(node, ast.Compare):
                    for sign, right in zip(node.ops, node.comparators):
                        if isinstance(sign, (ast.Is, ast.IsNot)):
                            self.assertTrue(isinstance(right, ast.Constant) and right.value in (None, True, False))

    def test_any_all_and_their_kin_take_lists(self):
        for name, text, tree in sources():
            for node in ast.walk(tree):
                if isinstance(node, ast.Call) and isinstance(node.func, ast.Name) and node.func.id in PLAIN_CALLS:
                    for part in node.args:
                        self.assertNotIsInstance(part, ast.GeneratorExp, f"{name}:{node.lineno}")

    def test_no_name_is_a_method_and_an_attribute(self):
        methods, attributes = set(), set()
        for name, text, tree in sources():
            for node in ast.walk(tree):
                if isinstance(node, ast.ClassDef):
                    methods |= {part.name for part in node.body if isinstance(part, ast.FunctionDef)}
                if isinstance(node, ast.Attribute) and isinstance(node.ctx, ast.Store):
                    attributes.add(node.attr)
        self.assertEqual(methods & attributes, set())

    def test_what_is_iterated_at_once_is_not_stored(self):
        for name, text, tree in sources():
            allowed = iterated_at_once(tree)
            for node in ast.walk(tree):
                if isinstance(node, ast.Call) and is_lazy(node):
                    self.assertIn(node, allowed, f"{name}:{node.lineno}")

    def test_no_variable_has_the_name_of_a_class_or_an_import_of_its_file(self):
        for name, text, tree in sources():
            taken = {node.name for node in tree.body if isinstance(node, ast.ClassDef)}
            taken |= {alias.name for node in tree.body if isinstance(node, ast.ImportFrom) for alias in node.names}
            for node in ast.walk(tree):
                if isinstance(node, ast.arg):
                    self.assertNotIn(node.arg, taken, f"{name}:{node.lineno}")
                if isinstance(node, ast.Name) and isinstance(node.ctx, ast.Store):
                    self.assertNotIn(node.id, taken, f"{name}:{node.lineno}")

    def test_operators_change_nothing_and_call_nothing_that_is_passed_or_kept(self):
        package = Package({name: text for name, text, tree in sources()})
        self.assertEqual(package.wrong(), [])
        names = {function.name for function in package.come_to()}
        self.assertLessEqual({"__add__", "__contains__", "__eq__", "__len__", "__init__", "as_told"}, names)


BOX = """
class Bad(ValueError):
    def __init__(self, index):
        self.index = index

def place(row, thing):
    {place}

class Made:
    def __init__(self, rows):
        self.rows = rows
        {made}

    def told(self):
        {told}

class Box:
    def __init__(self, rows):
        self.rows = rows

    def __contains__(self, x):
        {contains}

    def __len__(self):
        return len(self.rows)

    def free(self, step):
        self.rows.append(step(self.rows.index(1)))
"""


def wrong_in_box(**rows):
    """What is found wrong where these rows stand in BOX."""
    text = BOX
    for name in ("place", "made", "told", "contains"):
        text = text.replace("{" + name + "}", rows.get(name, "pass"))
    return Package({"box.py": text}).wrong()


class HowOperatorsAreLookedThrough(unittest.TestCase):
    """The test of the operators finds what it looks for, wherever an operator comes to it."""

    def found(self, word, **rows):
        wrong = wrong_in_box(**rows)
        self.assertEqual(len(wrong), 1, rows)
        self.assertIn(word, wrong[0])

    def test_nothing_is_wrong_with_what_is_allowed(self):
        self.assertEqual(wrong_in_box(), [])
        self.assertEqual(wrong_in_box(contains="return place(self.rows, x)", place="rows = [1]; rows.append(thing)"), [])
        self.assertEqual(wrong_in_box(contains="return Made([x]).told()", told="return list(self.rows)"), [])

    def test_what_no_operator_comes_to_is_free(self):
        self.assertEqual(wrong_in_box(place="return row.index(thing)", told="self.rows.append(1)"), [])

    def test_a_call_of_a_name_that_objects_keep(self):
        self.found(".index", contains="return self.rows.index(x) == 0")
        self.found(".index", contains="return place(self.rows, x)", place="return row.index(thing) < 1")
        self.found(".index", contains="return 1 in Made(x).rows", made="self.at = rows.index(1)")
        self.found(".index", contains="return Made(x).told() == 1", told="return self.rows.index(1)")
        self.found(".index", contains="return len(sorted([x], key=place)) == 1", place="return row.index(1)")

    def test_a_call_of_what_is_passed(self):
        self.found("calls x", contains="return x(1)")
        self.found("calls thing", contains="return place(1, x)", place="return thing(row)")
        self.found("no name", contains="return self.rows[0](x)")

    def test_a_change(self):
        self.found(".rows", contains="self.rows = [x]")
        self.found(".append", contains="self.rows.append(x)")
        self.found("item", contains="place(self.rows, x)", place="row[0] = thing")
        self.found(".sort", contains="rows = [x]; rows.sort()")
        self.found(".rows", contains="return Made(x).told()", told="self.rows = []")


if __name__ == "__main__":
    unittest.main()
