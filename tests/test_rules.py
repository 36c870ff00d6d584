"""The package keeps to the plain parts of the language rules: files, sizes, signs, imports and names."""

import ast
import builtins
import pathlib
import re
import unittest

PACKAGE = pathlib.Path(__file__).resolve().parent.parent / "reedtapes"
LIBRARY = {"heapq", "math", "itertools", "collections"}
BUILTINS = set("""len range enumerate zip min max sum abs sorted reversed int str bool list tuple dict set isinstance ord
    repr any all divmod pow iter next map super""".split())


def files():
    return sorted(PACKAGE.rglob("*.py"))


def trees():
    return [(path.name, ast.parse(path.read_text(encoding="ascii"))) for path in files()]


def bound_by(node):
    """The names that a statement at module level binds."""
    if isinstance(node, ast.ImportFrom):
        return [alias.name for alias in node.names]
    if isinstance(node, ast.Assign):
        return [target.id for target in node.targets]
    return [node.name] if isinstance(node, (ast.FunctionDef, ast.ClassDef)) else []


def local_names(tree):
    """Every parameter and every name that is assigned within a function."""
    told = set()
    for node in ast.walk(tree):
        if isinstance(node, (ast.FunctionDef, ast.Lambda)):
            told |= {part.arg for part in ast.walk(node.args) if isinstance(part, ast.arg)}
            told |= {part.id for part in ast.walk(node) if isinstance(part, ast.Name)
                     and isinstance(part.ctx, ast.Store)}
    return told


def attributes_set_in(tree):
    """The names of the attributes that are assigned in a class."""
    return [node.attr for node in ast.walk(tree)
            if isinstance(node, ast.Attribute) and isinstance(node.ctx, ast.Store)]


class Files(unittest.TestCase):
    def test_the_folder_holds_plain_files_alone(self):
        found = [path for path in PACKAGE.iterdir() if path.name != "__pycache__"]
        self.assertEqual(sorted(found), files())
        self.assertTrue((PACKAGE / "__init__.py").exists())
        for path in found:
            self.assertRegex(path.name, r"^[a-z0-9_]+\.py$")

    def test_signs_and_lengths(self):
        for path in files():
            text = path.read_text(encoding="ascii")
            lines = text.split("\n")
            self.assertLess(len(lines), 400, path)
            self.assertLessEqual(max(map(len, lines)), 120, path)
            self.assertRegex(text, r"^[ -~\n]*$")

    def test_functions_are_small(self):
        for name, tree in trees():
            for node in ast.walk(tree):
                if isinstance(node, ast.FunctionDef):
                    self.assertLessEqual(node.end_lineno - node.lineno + 1, 40, (name, node.name))


class Words(unittest.TestCase):
    def test_imports(self):
        for name, tree in trees():
            for node in ast.walk(tree):
                self.assertNotIsInstance(node, ast.Import, name)
                if isinstance(node, ast.ImportFrom):
                    self.assertEqual(node.level, 0, name)
                    self.assertTrue(node.module in LIBRARY or node.module.startswith("reedtapes."), name)
                    self.assertTrue(all(alias.asname is None and alias.name != "*" for alias in node.names), name)

    def test_only_the_builtins_that_are_let(self):
        for name, tree in trees():
            known = set(dir(__builtins__) if not isinstance(__builtins__, dict) else __builtins__)
            for node in ast.walk(tree):
                if isinstance(node, ast.Name) and node.id in known:
                    self.assertTrue(node.id in BUILTINS or node.id.endswith("Error") or node.id == "NotImplemented",
                                    (name, node.id))

    def test_no_float_and_no_decorator_over_a_function(self):
        for name, tree in trees():
            for node in ast.walk(tree):
                self.assertNotIsInstance(node, (ast.Div, ast.Global, ast.AsyncFunctionDef), name)
                self.assertFalse(isinstance(node, ast.Constant) and isinstance(node.value, float), name)

    def test_no_barred_words(self):
        barred = re.compile(r"\b(type|typing|enum|namedtuple|dataclass|_wall|open|eval|exec)\b")
        for path in files():
            self.assertIsNone(barred.search(path.read_text(encoding="ascii")), path)

    def test_no_per_cent_sign_in_a_text(self):
        for name, tree in trees():
            for node in ast.walk(tree):
                if isinstance(node, ast.Constant) and isinstance(node.value, str):
                    self.assertNotIn("%", node.value, name)


class Names(unittest.TestCase):
    def test_each_module_holds_plain_statements(self):
        plain = (ast.ImportFrom, ast.FunctionDef, ast.ClassDef, ast.Assign)
        for name, tree in trees():
            self.assertIsInstance(tree.body[0], ast.Expr, name)
            for node in tree.body[1:]:
                self.assertIsInstance(node, plain, name)
            bound = [word for node in tree.body for word in bound_by(node)]
            self.assertEqual(len(bound), len(set(bound)), name)

    def test_no_name_stands_for_two_things(self):
        for name, tree in trees():
            outer = {word for node in tree.body for word in bound_by(node)
                     if isinstance(node, (ast.ImportFrom, ast.ClassDef, ast.FunctionDef))}
            for word in local_names(tree):
                self.assertNotIn(word, outer, name)
                self.assertNotIn(word, dir(builtins), name)

    def test_each_import_is_used(self):
        for name, tree in trees():
            used = {node.id for node in ast.walk(tree) if isinstance(node, ast.Name)}
            for node in tree.body:
                if isinstance(node, ast.ImportFrom):
                    for word in bound_by(node):
                        self.assertIn(word, used, name)

    def test_imports_name_the_file_that_defines_the_name(self):
        found = dict(trees())
        for name, tree in trees():
            for node in tree.body:
                if isinstance(node, ast.ImportFrom) and node.module.startswith("reedtapes."):
                    home = found[node.module.split(".")[1] + ".py"]
                    defined = [word for other in home.body if not isinstance(other, ast.ImportFrom)
                               for word in bound_by(other)]
                    for word in bound_by(node):
                        self.assertIn(word, defined, name)

    def test_methods_and_attributes_have_names_of_their_own(self):
        barred = {word for kind in (str, int, list, dict, set, bytes, tuple) for word in dir(kind)}
        for name, tree in trees():
            for node in ast.walk(tree):
                if isinstance(node, ast.ClassDef):
                    methods = [part.name for part in node.body if isinstance(part, ast.FunctionDef)]
                    plain = [word for word in methods if not word.startswith("__")]
                    self.assertEqual(barred & set(plain), set(), name)
                    self.assertEqual(set(attributes_set_in(node)) & (barred | set(methods)), set(), name)


class Interface(unittest.TestCase):
    DEFINED = {
        "gaps": ["gap_bytes", "gap_read"],
        "events": ["is_event", "need_track", "later", "keyed", "put_in"],
        "heads": ["written", "cost", "prices", "thrifty"],
        "feeder": ["read_track"],
        "maps": ["share"],
        "notes": ["notes", "lone", "hung", "over", "cured"],
        "stands": ["stand_at"],
        "sound": ["unlike"],
        "tracks": ["merged", "parted", "apart", "cut", "glued", "at_beat", "least_beat"],
        "grids": ["evened", "unevened", "mapped"],
        "tape": ["tape_bytes", "read_tape"],
        "pages": ["deed_row", "read_deed", "page", "read_page"],
    }
    CLASSES = {
        ("feeder", "Feeder"): ["__init__", "feed", "events", "closed", "finish", "busy", "__len__"],
        ("maps", "Map"): ["__init__", "put", "drop", "beat", "paces", "pace_at", "moment", "tick_of", "near", "twin",
                          "__eq__", "__len__", "__repr__"],
        ("stands", "Stand"): ["__init__", "after", "sounds", "knobs", "voices", "__eq__", "__len__"],
        ("player", "Player"): ["__init__", "tick", "play", "leap", "stand", "heard", "walked", "twin"],
        ("grids", "Grid"): ["__init__", "line", "moved", "__eq__"],
        ("tape", "Tape"): ["__init__", "beat", "tracks", "paces", "paced", "__eq__", "__len__", "__repr__"],
        ("deck", "Deck"): ["__init__", "do", "do_all", "undo", "redo", "deeds", "names", "tape", "fresh", "busy", "twin",
                           "__eq__", "__len__"],
        ("desk", "Desk"): ["__init__", "deck", "say"],
    }

    def test_each_function_is_defined_in_its_file(self):
        found = dict(trees())
        for file, names in self.DEFINED.items():
            defined = [node.name for node in found[file + ".py"].body if isinstance(node, ast.FunctionDef)]
            for name in names:
                self.assertIn(name, defined)

    def test_each_method_is_defined_in_its_class(self):
        found = dict(trees())
        for (file, name), methods in self.CLASSES.items():
            classes = {node.name: node for node in found[file + ".py"].body if isinstance(node, ast.ClassDef)}
            defined = [node.name for node in classes[name].body if isinstance(node, ast.FunctionDef)]
            for method in methods:
                self.assertIn(method, defined, name)


if __name__ == "__main__":
    unittest.main()
