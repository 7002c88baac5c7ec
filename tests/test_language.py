"""The rules of the language subset that can be seen in one file at a time."""

import ast
import builtins
import pathlib
import re
import unittest

PACKAGE = pathlib.Path(__file__).resolve().parent.parent / "holdingsshut"
FILES = sorted(PACKAGE.glob("*.py"))
BUILTINS = set(
    "len range enumerate zip min max sum abs sorted reversed int str bool list tuple dict set isinstance ord repr any all "
    "divmod iter super ValueError TypeError KeyError IndexError property classmethod staticmethod".split()
)
METHODS = set(
    "append clear copy count endswith extend find get index insert isalnum isalpha isdigit islower isspace isupper items "
    "join keys ljust lower lstrip partition pop remove replace reverse rfind rjust rpartition rsplit rstrip setdefault "
    "split splitlines startswith strip update upper values zfill bit_length".split()
)
CHANGES = set("append extend insert pop remove clear update setdefault reverse sort add".split())
SPECIAL_METHODS = {"__init__", "__contains__", "__iter__", "__call__"}
BARRED_NODES = (ast.AsyncFunctionDef, ast.AsyncFor, ast.AsyncWith, ast.Await, ast.Div, ast.Import)


ITERATED = {"zip", "enumerate", "reversed", "items", "keys", "values", "product", "combinations", "permutations"}
TAKERS = {"list", "tuple", "dict", "sorted", "sum", "any", "all", "enumerate", "zip", "min", "max", "join"}
BARRED_WORDS = re.compile(
    r"\b(type|typing|enum|Enum|Flag|Generic|Protocol|ABC|namedtuple|mro|elements|open|input|law|register|exec|eval|compile|"
    r"globals|locals|vars|dir|help|exit|quit|id|os|sys|gc)\b"
)


def called(node):
    """The bare name of what a call calls, or None."""
    if not isinstance(node, ast.Call):
        return None
    return node.func.id if isinstance(node.func, ast.Name) else getattr(node.func, "attr", None)


def with_parents(tree):
    """All nodes, each with the node around it."""
    for parent in ast.walk(tree):
        for node in ast.iter_child_nodes(parent):
            yield node, parent


def trees():
    for path in FILES:
        yield path, ast.parse(path.read_text(encoding="ascii"))


def docstrings(tree):
    """The nodes of docstrings."""
    for node in ast.walk(tree):
        if isinstance(node, (ast.Module, ast.ClassDef, ast.FunctionDef)) and ast.get_docstring(node) is not None:
            yield node.body[0].value


def changed_names(loop):
    """The names of what a loop changes in place."""
    changed = set()
    for node in ast.walk(loop):
        if isinstance(node, ast.Call) and isinstance(node.func, ast.Attribute) and node.func.attr in CHANGES:
            node = node.func
        elif not (isinstance(node, ast.Subscript) and isinstance(node.ctx, (ast.Store, ast.Del))):
            continue
        while isinstance(node, (ast.Attribute, ast.Subscript)):
            node = node.value
        if isinstance(node, ast.Name):
            changed.add(node.id)
    return changed


def same_lists(function, names):
    """The names, and those that a plain assignment of the function makes another name of theirs."""
    pairs = [
        {target.id, node.value.id} for node in ast.walk(function) if isinstance(node, ast.Assign)
        and isinstance(node.value, ast.Name) for target in node.targets if isinstance(target, ast.Name)
    ]
    for _ in pairs:
        for pair in pairs:
            names = names | pair if names & pair else names
    return names


class Language(unittest.TestCase):
    def test_the_folder_holds_python_files_alone(self):
        names = [path.name for path in PACKAGE.iterdir() if path.name != "__pycache__"]
        self.assertEqual(sorted(names), [path.name for path in FILES])
        self.assertIn("__init__.py", names)

    def test_sizes(self):
        for path, tree in trees():
            lines = path.read_text(encoding="ascii").splitlines()
            self.assertLessEqual(len(lines), 399, path.name)
            for at, line in enumerate(lines):
                self.assertLessEqual(len(line), 120, (path.name, at + 1))
                self.assertTrue(line.isprintable(), (path.name, at + 1))
            for node in ast.walk(tree):
                if isinstance(node, ast.FunctionDef):
                    self.assertLessEqual(node.end_lineno - node.lineno + 1, 40, (path.name, node.name))

    def test_imports_come_from_the_package(self):
        for path, tree in trees():
            for node in tree.body:
                if isinstance(node, ast.ImportFrom):
                    self.assertTrue(node.module.startswith("holdingsshut."), path.name)
                    self.assertEqual(node.level, 0)
                    self.assertFalse([alias for alias in node.names if alias.asname or alias.name == "*"])

    def test_statements(self):
        for path, tree in trees():
            for node in ast.walk(tree):
                self.assertNotIsInstance(node, BARRED_NODES, (path.name, getattr(node, "lineno", 0)))
                if isinstance(node, (ast.FunctionDef, ast.ClassDef)):
                    decorators = [ast.unparse(one) for one in node.decorator_list]
                    self.assertFalse(set(decorators) - {"property", "classmethod"}, path.name)
                if isinstance(node, ast.FunctionDef) and node.name.startswith("__"):
                    self.assertIn(node.name, SPECIAL_METHODS)

    def test_names_and_methods(self):
        own = {
            node.name for _, tree in trees() for node in ast.walk(tree) if isinstance(node, (ast.FunctionDef, ast.ClassDef))
        }
        for path, tree in trees():
            known = set(BUILTINS)
            for node in ast.walk(tree):
                if isinstance(node, ast.Name) and isinstance(node.ctx, ast.Store):
                    known.add(node.id)
                if isinstance(node, ast.arg):
                    known.add(node.arg)
                if isinstance(node, (ast.alias, ast.ExceptHandler, ast.FunctionDef, ast.ClassDef)):
                    known.add(node.name)
            for node in ast.walk(tree):
                if isinstance(node, ast.Name):
                    self.assertIn(node.id, known, (path.name, node.lineno))
                if isinstance(node, ast.Call) and isinstance(node.func, ast.Attribute):
                    self.assertIn(node.func.attr, METHODS | own | SPECIAL_METHODS, (path.name, node.lineno))

    def test_no_name_means_two_things(self):
        for path, tree in trees():
            fixed = set()
            for node in tree.body:
                fixed |= {alias.name for alias in getattr(node, "names", [])}
                fixed |= {node.name} if isinstance(node, ast.ClassDef) else set()
            names = {node.id for node in ast.walk(tree) if isinstance(node, ast.Name) and isinstance(node.ctx, ast.Store)}
            names |= {node.arg for node in ast.walk(tree) if isinstance(node, ast.arg)}
            functions = {node.name for node in tree.body if isinstance(node, (ast.FunctionDef, ast.ClassDef))}
            self.assertFalse(fixed & names, path.name)
            # The interface calls a parameter of check_proof as it calls the function beside it.
            self.assertFalse((functions & names) - {"proof"}, path.name)
            self.assertFalse((names | functions) & set(dir(builtins)), path.name)

    def test_sets_and_iterators_are_used_on_the_spot(self):
        for path, tree in trees():
            for node, parent in with_parents(tree):
                place = (path.name, getattr(node, "lineno", 0))
                around = called(parent) if isinstance(parent, ast.Call) and node in parent.args else None
                if called(node) == "set" or isinstance(node, (ast.Set, ast.SetComp)):
                    self.assertTrue(around in ("sorted", "len") or isinstance(parent, ast.Compare), place)
                if called(node) in ITERATED or isinstance(node, ast.GeneratorExp):
                    looped = isinstance(parent, (ast.For, ast.comprehension)) and parent.iter is node
                    self.assertTrue(looped or around in TAKERS, place)

    def test_no_loop_changes_what_it_walks(self):
        for path, tree in trees():
            for function in ast.walk(tree):
                if isinstance(function, ast.FunctionDef):
                    for node in ast.walk(function):
                        if isinstance(node, (ast.For, ast.comprehension)):
                            walked = {name.id for name in ast.walk(node.iter) if isinstance(name, ast.Name)}
                            if called(node.iter) in ("list", "tuple", "sorted"):
                                walked = set()
                            changed = changed_names(node)
                            place = (path.name, node.iter.lineno)
                            self.assertFalse(same_lists(function, walked) & same_lists(function, changed), place)

    def test_words_that_are_barred(self):
        for path, tree in trees():
            for node in ast.walk(tree):
                for kind in ["id", "attr", "arg", "name"]:
                    name = getattr(node, kind, None)
                    self.assertIsNone(BARRED_WORDS.search(name or ""), (path.name, name))

    def test_texts(self):
        for path, tree in trees():
            docs = list(docstrings(tree))
            for node in ast.walk(tree):
                if isinstance(node, ast.Constant) and isinstance(node.value, str) and node not in docs:
                    self.assertNotIn("%", node.value, (path.name, node.lineno))
                self.assertFalse(isinstance(node, ast.Constant) and isinstance(node.value, float), path.name)


if __name__ == "__main__":
    unittest.main()
