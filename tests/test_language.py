"""Those rules of LANGUAGE.md that a glance at the syntax can tell, for the files of the package."""

import ast
import builtins
import unittest
from pathlib import Path

PACKAGE = Path(__file__).resolve().parent.parent / "whatopened"
ALLOWED = set(
    "len range enumerate zip min max sum abs sorted reversed int str bool bytes list tuple dict set isinstance ord repr"
    " any all divmod iter next ValueError KeyError IndexError LookupError TypeError NotImplemented".split()
)
BARRED_WORDS = set(
    "type typing typing_extensions enum Enum IntEnum StrEnum Flag IntFlag Generic Protocol ABC ABCMeta namedtuple"
    " NamedTuple TypedDict TYPE_CHECKING abstractmethod".split()
)
BARRED_PARTS = ("dataclass", "overload", "contextmanager")
PLAIN_CALLS = ("sum", "min", "max", "sorted", "any", "all")


def sources():
    """The path, the text and the syntax tree of each file of the package."""
    for path in sorted(PACKAGE.glob("*.py")):
        text = path.read_text(encoding="utf-8")
        yield path.name, text, ast.parse(text)


def words_of(text):
    """The words of a text, cut at whatever is neither a letter, a digit nor _."""
    return "".join(sign if sign.isalnum() or sign == "_" else " " for sign in text).split()


def functions_of(tree):
    return [node for node in ast.walk(tree) if isinstance(node, ast.FunctionDef)]


class TheLanguage(unittest.TestCase):
    def test_the_folder_contains_plain_python_files_only(self):
        for path in PACKAGE.iterdir():
            if path.name != "__pycache__":
                self.assertTrue(path.is_file() and path.suffix == ".py" and path.name == path.name.lower(), path.name)
        self.assertTrue((PACKAGE / "__init__.py").is_file())

    def test_signs_and_sizes(self):
        for name, text, tree in sources():
            lines = text.split("\n")
            self.assertLessEqual(len(lines), 399, name)
            self.assertLessEqual(max(len(line) for line in lines), 120, name)
            self.assertTrue(all(sign == "\n" or " " <= sign <= "~" for sign in text), name)
            for function in functions_of(tree):
                self.assertLessEqual(function.end_lineno - function.lineno + 1, 40, function.name)

    def test_words_that_do_not_occur(self):
        for name, text, tree in sources():
            self.assertEqual(BARRED_WORDS & set(words_of(text)), set(), name)
            for part in BARRED_PARTS:
                self.assertNotIn(part, text, name)

    def test_what_stands_at_module_level(self):
        allowed = (ast.ImportFrom, ast.FunctionDef, ast.ClassDef, ast.Assign)
        for name, text, tree in sources():
            for at, node in enumerate(tree.body):
                docstring = at == 0 and isinstance(node, ast.Expr) and isinstance(node.value, ast.Constant)
                self.assertTrue(docstring or isinstance(node, allowed), f"{name}:{node.lineno}")

    def test_imports_name_the_file_that_defines_the_name(self):
        defined = {}
        for name, text, tree in sources():
            found = [node.name for node in tree.body if isinstance(node, (ast.FunctionDef, ast.ClassDef))]
            for node in tree.body:
                if isinstance(node, ast.Assign):
                    found += [target.id for target in node.targets]
            self.assertEqual(len(found), len(set(found)), name)
            defined["whatopened." + name[:-3]] = found
        for name, text, tree in sources():
            for node in ast.walk(tree):
                self.assertNotIsInstance(node, ast.Import)
                if isinstance(node, ast.ImportFrom):
                    for alias in node.names:
                        self.assertIn(alias.name, defined[node.module], f"{name}:{node.lineno}")

    def test_no_two_files_import_from_each_other(self):
        needs = {
            "whatopened." + name[:-3]: [node.module for node in tree.body if isinstance(node, ast.ImportFrom)]
            for name, text, tree in sources()
        }
        done = []
        while len(done) < len(needs):
            ready = [one for one in needs if one not in done and all(other in done for other in needs[one])]
            self.assertTrue(ready, "a ring of imports")
            done += ready

    def test_builtins_that_are_used_and_names_that_hide_none(self):
        hidden = set(dir(builtins))
        for name, text, tree in sources():
            for node in ast.walk(tree):
                if isinstance(node, ast.Name) and node.id in hidden:
                    self.assertIsInstance(node.ctx, ast.Load, f"{name}:{node.lineno}")
                    self.assertIn(node.id, ALLOWED, f"{name}:{node.lineno}")
                if isinstance(node, ast.arg):
                    self.assertNotIn(node.arg, hidden, f"{name}:{node.lineno}")

    def test_names_are_plain(self):
        for name, text, tree in sources():
            for node in ast.walk(tree):
                found = [getattr(node, part, None) for part in ("id", "attr", "arg")]
                if isinstance(node, ast.ClassDef):
                    found.append(node.name)
                for word in found:
                    self.assertFalse(isinstance(word, str) and word.startswith("_"), f"{name}: {word}")

    def test_statements_and_signs_that_do_not_occur(self):
        for name, text, tree in sources():
            for node in ast.walk(tree):
                self.assertNotIsInstance(node, (ast.Global, ast.AsyncFunctionDef, ast.Await, ast.Div), name)
                if isinstance(node, (ast.FunctionDef, ast.ClassDef)):
                    self.assertEqual(node.decorator_list, [], f"{name}:{node.lineno}")
                if isinstance(node, ast.Constant):
                    self.assertNotIsInstance(node.value, (float, complex), name)
                    self.assertFalse(isinstance(node.value, str) and "%" in node.value, f"{name}:{node.lineno}")

    def test_is_stands_beside_none_true_and_false_only(self):
        for name, text, tree in sources():
            for node in ast.walk(tree):
                if isinstance(node, ast.Compare):
                    for sign, right in zip(node.ops, node.comparators):
                        if isinstance(sign, (ast.Is, ast.IsNot)):
                            self.assertTrue(isinstance(right, ast.Constant) and right.value in (None, True, False))

    def test_any_all_and_their_kin_take_lists(self):
        for name, text, tree in sources():
            for node in ast.walk(tree):
                if isinstance(node, ast.Call) and isinstance(node.func, ast.Name) and node.func.id in PLAIN_CALLS:
                    for part in node.args:
                        self.assertNotIsInstance(part, ast.GeneratorExp, f"{name}:{node.lineno}")

    def test_no_name_is_a_method_and_an_attribute(self):
        methods, attributes = set(), set()
        for name, text, tree in sources():
            for node in ast.walk(tree):
                if isinstance(node, ast.ClassDef):
                    methods |= {part.name for part in node.body if isinstance(part, ast.FunctionDef)}
                if isinstance(node, ast.Attribute) and isinstance(node.ctx, ast.Store):
                    attributes.add(node.attr)
        self.assertEqual(methods & attributes, set())


if __name__ == "__main__":
    unittest.main()
