"""The files of the package keep to the plainer ones of the rules in LANGUAGE.md, and hold the interface of DOC.md."""

import ast
import builtins
import importlib
import inspect
import pathlib
import re
import unittest

FOLDER = pathlib.Path(__file__).resolve().parent.parent / "heardagain"
FILES = sorted(FOLDER.glob("*.py"))

INTERFACE = {
    "scores": {"is_note": ["value"], "score_error": ["value"], "points_of": ["score"], "voices_of": ["score"],
               "notes_at": ["score", "point"]},
    "points": {"points_error": ["value"], "figure_error": ["value"]},
    "scoretexts": {"score_text": ["score"], "read_score": ["value"], "points_text": ["points"], "read_points": ["value"]},
    "moves": {"fraction_error": ["value"], "move_error": ["value"], "lands": ["move", "point"], "led": ["move", "points"],
              "behind": ["move", "further"], "undone": ["move"], "is_of": ["kind", "move"]},
    "figures": {"leads": ["figure", "other", "kind"], "alike": ["figure", "other", "kind"], "normal": ["figure", "kind"]},
    "places": {"hits": ["score", "figure", "move"], "places": ["score", "figure", "kind", "least"],
               "whole": ["score", "figure", "kind"], "best": ["score", "figure", "kind"],
               "tally": ["score", "figure", "kind"]},
    "placejudge": {"place_error": ["score", "figure", "kind", "least", "value"]},
    "common": {"common": ["score", "other", "kind"], "shared": ["score", "other", "move"],
               "likeness": ["score", "other", "kind"], "ranked": ["scores", "score", "kind"], "several": ["scores"]},
    "closed": {"shifts_of": ["score", "points"], "closed_of": ["score", "points"], "closed_error": ["score", "value"],
               "closed_pairs": ["score"]},
    "fronts": {"lies_in": ["pair", "other"], "nearest_in": ["score"], "front": ["score"],
               "most_points": ["score", "many"], "most_places": ["score", "many"]},
    "written": {"writing_error": ["points", "value"], "placed": ["writing"], "size": ["writing"],
                "given_by": ["writing", "point"]},
    "told": {"told_writing": ["points"], "least_writing": ["points"]},
    "themes": {"with_theme": ["writing", "place", "theme"], "without": ["writing", "point"], "joined_up": ["writing"]},
    "lines": {"line_of": ["score", "voice"], "followings": ["line", "other", "kind", "least"]},
    "nears": {"near": ["pitches", "others", "prices"], "near_price": ["pitches", "others", "prices", "v"],
              "near_paper": ["pitches", "others", "prices"],
              "near_holds": ["pitches", "others", "prices", "price", "value"]},
    "keys": {"steps": ["points", "width"], "flat_steps": ["points", "width"], "shared_steps": ["some", "others"],
             "need": ["figure", "least", "width", "kind"]},
    "sieves": {"sieve": ["scores", "figure", "least", "width", "kind"],
               "sifted": ["scores", "figure", "least", "width", "kind"]},
    "patterns": {"pattern_error": ["value"], "places_of": ["score", "pattern"]},
    "singles": {"singles": ["pattern"], "ring": ["pattern"], "ring_holds": ["pattern", "value"]},
    "withins": {"within": ["pattern", "other"], "alike_patterns": ["pattern", "other"],
                "at_one_note": ["pattern", "one", "other", "two"]},
}
# The classes, each with its file, the arguments of its methods and its properties.
CLASSES = {
    "Kept": ("kept", {"__init__": ["score"], "put": ["note"], "cut": ["note"],
                      "stand": ["name", "figure", "kind", "least"], "drop": ["name"], "places": ["name"],
                      "news": ["since"], "closed": []}, ["score", "version", "steps", "looks"]),
    "Bench": ("benches", {"__init__": [], "__len__": [], "__getitem__": ["name"], "__iter__": [], "__eq__": ["other"],
                          "search": ["figure", "kind", "least"], "add": ["name", "score"], "drop": ["name"],
                          "put": ["name", "note"], "cut": ["name", "note"], "shift": ["name", "later", "higher"],
                          "batch": ["edits"], "undo": [], "redo": [], "at": ["version"], "copy": [],
                          "attempt": ["work"]}, ["shelf", "version"]),
    "Shell": ("shells", {"__init__": [], "say": ["line"]}, []),
}

LET_BUILTINS = """
    len range enumerate zip min max sum abs sorted reversed int str bool bytes list tuple dict set frozenset isinstance
    ord repr any all divmod pow getattr hasattr setattr iter next map Exception ValueError TypeError KeyError IndexError
    LookupError ZeroDivisionError ArithmeticError OverflowError RuntimeError NotImplementedError AttributeError
    StopIteration NotImplemented property staticmethod classmethod super
""".split()
LET_METHODS = """
    append clear copy count endswith extend find get index insert isalnum isalpha isdigit islower isspace isupper items
    join keys ljust lower lstrip partition pop remove replace reverse rfind rjust rpartition rsplit rstrip setdefault
    split splitlines startswith strip update upper values zfill bit_length isascii isdecimal
""".split()
# No itertools: what of it may stand elsewhere may not stand beside a class with __len__ that is iterated over.
LET_LIBRARY = {"math": ("gcd", "lcm", "isqrt", "comb")}
BARRED_NODES = (ast.GeneratorExp, ast.Global, ast.AsyncFunctionDef, ast.Await, ast.Div, ast.Import)
BARRED_WORDS = ("type", "typing", "enum", "Enum", "Generic", "Protocol", "ABC", "namedtuple", "open", "input", "law",
                "register", "mro", "elements", "chr", "eval", "exec", "compile", "vars", "dir", "help", "id", "os", "sys")


def tree_of(path):
    """Return the tree of a file."""
    return ast.parse(path.read_text(encoding="ascii"))


def defined(tree):
    """Return the names that a file itself binds at module level."""
    names = []
    for node in tree.body:
        if isinstance(node, (ast.FunctionDef, ast.ClassDef)):
            names.append(node.name)
        elif isinstance(node, ast.Assign):
            names.extend([target.id for target in node.targets])
    return names


def imported(tree):
    """Return the pairs of a module and a name that a file imports."""
    return [(node.module, one.name) for node in tree.body if isinstance(node, ast.ImportFrom) for one in node.names]


class FilesTest(unittest.TestCase):
    def test_folder(self):
        found = [path.name for path in FOLDER.iterdir() if path.name != "__pycache__"]
        self.assertIn("__init__.py", found)
        for name in found:
            self.assertRegex(name, r"^[a-z_][a-z0-9_]*\.py$")

    def test_size_and_signs(self):
        for path in FILES:
            text = path.read_text(encoding="ascii")
            self.assertRegex(text, r"\A[ -~\n]*\Z", path)
            lines = text.splitlines()
            self.assertLess(len(lines), 400, path)
            self.assertLessEqual(max([len(line) for line in lines]), 120, path)
            for node in ast.walk(tree_of(path)):
                if isinstance(node, ast.FunctionDef):
                    self.assertLessEqual(node.end_lineno - node.lineno + 1, 40, (path, node.name))

    def test_module_level(self):
        for path in FILES:
            tree = tree_of(path)
            self.assertIsNotNone(ast.get_docstring(tree), path)
            for node in tree.body[1:]:
                self.assertIsInstance(node, (ast.ImportFrom, ast.FunctionDef, ast.ClassDef, ast.Assign), path)
            names = defined(tree) + [name for _, name in imported(tree)]
            self.assertEqual(sorted(names), sorted(set(names)), path)

    def test_imports(self):
        homes = {f"heardagain.{path.stem}": defined(tree_of(path)) for path in FILES}
        for path in FILES:
            for module, name in imported(tree_of(path)):
                told = LET_LIBRARY.get(module) or homes.get(module, ())
                self.assertIn(name, told, (path, module))
            for node in ast.walk(tree_of(path)):
                if isinstance(node, ast.ImportFrom):
                    self.assertEqual((node.level, [one.asname for one in node.names if one.asname]), (0, []), path)

    def test_no_circles(self):
        above = {f"heardagain.{path.stem}": [module for module, _ in imported(tree_of(path))] for path in FILES}
        left = dict(above)
        while left:
            free = [module for module, needs in left.items() if not [need for need in needs if need in left]]
            self.assertTrue(free, left)
            left = {module: needs for module, needs in left.items() if module not in free}


class CodeTest(unittest.TestCase):
    def test_nodes_and_words(self):
        for path in FILES:
            for node in ast.walk(tree_of(path)):
                self.assertNotIsInstance(node, BARRED_NODES, (path, getattr(node, "lineno", 0)))
                if isinstance(node, ast.Constant):
                    self.assertNotIsInstance(node.value, (float, complex), path)
                for name in self.names_of(node):
                    self.assertNotIn(name, BARRED_WORDS, path)
                    self.assertRegex(name, r"^(_|_?[A-Za-z][A-Za-z0-9_]*|__[a-z]+__)$", path)

    def names_of(self, node):
        """Return the names that stand in a node itself."""
        found = [getattr(node, "id", None), getattr(node, "name", None), getattr(node, "attr", None)]
        found.append(getattr(node, "arg", None))
        return [name for name in found if isinstance(name, str)]

    def test_builtins(self):
        for path in FILES:
            for node in ast.walk(tree_of(path)):
                if isinstance(node, ast.Name) and hasattr(builtins, node.id):
                    self.assertIsInstance(node.ctx, ast.Load, (path, node.id))
                    self.assertIn(node.id, LET_BUILTINS, path)
                if isinstance(node, ast.arg):
                    self.assertFalse(hasattr(builtins, node.arg), (path, node.arg))
            for name in defined(tree_of(path)):
                self.assertFalse(hasattr(builtins, name), (path, name))

    def test_local_names_hide_nothing(self):
        for path in FILES:
            tree = tree_of(path)
            bound = defined(tree) + [name for _, name in imported(tree)]
            for function in ast.walk(tree):
                if isinstance(function, ast.FunctionDef):
                    for node in ast.walk(function):
                        if isinstance(node, ast.Name) and isinstance(node.ctx, ast.Store):
                            self.assertNotIn(node.id, bound, (path, function.name))
                        if isinstance(node, ast.arg):
                            self.assertNotIn(node.arg, bound, (path, function.name))

    def test_methods(self):
        own = [node.name for path in FILES for shape in ast.walk(tree_of(path)) if isinstance(shape, ast.ClassDef)
               for node in shape.body if isinstance(node, ast.FunctionDef)]
        for path in FILES:
            for node in ast.walk(tree_of(path)):
                if isinstance(node, ast.Call) and isinstance(node.func, ast.Attribute):
                    self.assertIn(node.func.attr, LET_METHODS + own, path)

    def test_classes(self):
        for path in FILES:
            for shape in ast.walk(tree_of(path)):
                if isinstance(shape, ast.FunctionDef):
                    told = [ast.unparse(one) for one in shape.decorator_list]
                    self.assertIn(told, ([], ["property"]), (path, shape.name))
                if isinstance(shape, ast.ClassDef):
                    self.assertLessEqual(len(shape.bases), 1, (path, shape.name))
                    self.assertEqual(shape.decorator_list, [], (path, shape.name))
                    for node in shape.body:
                        docstring = isinstance(node, ast.Expr) and isinstance(node.value, ast.Constant)
                        self.assertTrue(docstring or isinstance(node, ast.FunctionDef), (path, shape.name))

    def test_errors_that_are_caught_are_own_ones(self):
        own = defined(tree_of(FOLDER / "errors.py"))
        for path in FILES:
            for node in ast.walk(tree_of(path)):
                if isinstance(node, ast.ExceptHandler):
                    self.assertIsInstance(node.type, ast.Name, path)
                    self.assertIn(node.type.id, own, path)
                if isinstance(node, ast.Raise):
                    self.assertTrue(node.exc is None or isinstance(node.exc, ast.Call), path)

    def test_sets(self):
        # A class has a method add, so no set is added to; and no set is sorted by a key.
        for path in FILES:
            for node in ast.walk(tree_of(path)):
                if isinstance(node, ast.Call) and isinstance(node.func, ast.Attribute):
                    self.assertNotIn(node.func.attr, ("discard", "union", "intersection", "sort"), path)
                    if node.func.attr == "add":
                        self.assertEqual(ast.unparse(node.func.value), "bench", path)
                if isinstance(node, ast.Call) and isinstance(node.func, ast.Name) and node.func.id == "sorted":
                    if isinstance(node.args[0], (ast.Set, ast.SetComp)) or ast.unparse(node.args[0]).startswith("set("):
                        self.assertEqual(node.keywords, [], path)

    def test_sets_are_not_iterated(self):
        # A set is made only to be asked, sorted or measured; each one is written as set(..) or in braces.
        for path in FILES:
            for node in ast.walk(tree_of(path)):
                if isinstance(node, (ast.For, ast.comprehension)):
                    self.assertNotIsInstance(node.iter, (ast.Set, ast.SetComp), path)
                    self.assertFalse(re.match(r"(frozen)?set\(", ast.unparse(node.iter)), path)


class InterfaceTest(unittest.TestCase):
    def test_functions_stand_in_their_files(self):
        for name, functions in INTERFACE.items():
            tree = tree_of(FOLDER / f"{name}.py")
            found = {node.name: [one.arg for one in node.args.args] for node in tree.body
                     if isinstance(node, ast.FunctionDef)}
            for function, arguments in functions.items():
                self.assertEqual(found.get(function), arguments, (name, function))
                module = importlib.import_module(f"heardagain.{name}")
                self.assertEqual(getattr(module, function).__module__, f"heardagain.{name}")

    def test_classes_stand_in_their_files(self):
        for name, (file, methods, properties) in CLASSES.items():
            shape = getattr(importlib.import_module(f"heardagain.{file}"), name)
            self.assertEqual(shape.__module__, f"heardagain.{file}")
            for method, arguments in methods.items():
                found = inspect.signature(vars(shape)[method]).parameters.values()
                self.assertEqual([one.name for one in found], ["self"] + arguments, (name, method))
                for one in found:
                    self.assertEqual((one.kind, one.default), (one.POSITIONAL_OR_KEYWORD, one.empty), (name, method))
            for own in properties:
                self.assertIsInstance(vars(shape)[own], property, (name, own))
                self.assertIsNone(vars(shape)[own].fset, (name, own))
            told = [own for own in vars(shape) if not own.startswith("_")]
            self.assertEqual(sorted(told), sorted([own for own in methods if own[0] != "_"] + properties))

    def test_all_files_of_the_interface(self):
        told = list(INTERFACE) + [file for file, _, _ in CLASSES.values()] + ["bounds", "errors"]
        for name in told:
            self.assertTrue((FOLDER / f"{name}.py").is_file(), name)
        # As the interface of the document counts its files.
        self.assertEqual(len(told), len(set(told)))
        self.assertEqual(len(told), 25)


if __name__ == "__main__":
    unittest.main()
