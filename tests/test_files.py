"""The files of the package: their sizes and signs, what they import, and what they define."""

import ast
import doctest
import unittest
from pathlib import Path

ROOT = Path(__file__).resolve().parent.parent
PACKAGE = ROOT / "barstay"
FILES = sorted(path for path in PACKAGE.rglob("*") if path.is_file() and path.parent.name != "__pycache__")
# The modules of the standard library that LANGUAGE.md allows.
LIBRARY = ("heapq", "math", "itertools", "collections")
INTERFACE = {
    "errors": ["BarError", "BadShape", "BadSimplex", "BadHeight", "DuplicateSimplex", "MissingFace", "LateFace",
               "UnknownSimplex", "BadBar", "BadLine", "BadOrder", "BadSwap", "BadEdit", "NothingToUndo",
               "NothingToRedo", "OtherShape"],
    "shapes": ["is_simplex", "is_bar", "dimension_of", "faces_of", "check_shape", "grown", "order_of", "height_of",
               "cofaces_of", "check_bars", "sorted_bars"],
    "levels": ["heights_of", "shape_at", "counts_of", "euler_of", "euler_steps", "lowest_above"],
    "written": ["format_shape", "format_bars", "parse_shape", "parse_bars"],
    "chains": ["added", "summed", "last_of", "boundary", "is_cycle", "is_chain"],
    "reducing": ["reduced", "pairs_of", "filling"],
    "judging": ["fault", "is_right", "is_neat", "told_pairs", "shows_pairs"],
    "ranks": ["rank", "relations", "made_of"],
    "bars": ["bars_of", "bars_by", "lasting", "alive", "changes", "euler_by_bars"],
    "cycles": ["holes", "holes_lasting", "paper_of", "judge_paper", "same_hole"],
    "keeping": ["Kept"],
    "editing": ["edited", "inverse"],
    "history": ["History"],
    "nearness": ["cost", "cost_alone", "is_bound", "partners"],
    "matching": ["matched", "judge_matched", "judge_short"],
    "closest": ["closest", "judge_closest"],
    "stable": ["difference", "followed"],
}
METHODS = {
    "keeping": {"Kept": ["order", "pairs", "chains", "put", "drop", "swap"]},
    "history": {"History": ["shape", "pairs", "chains", "bars", "do", "undo", "redo", "counts"]},
}


def tree_of(path):
    return ast.parse(path.read_text())


def defined_in(tree):
    return [node.name for node in tree.body if isinstance(node, (ast.FunctionDef, ast.ClassDef))]


def bound_in(tree):
    constants = [target.id for node in tree.body if isinstance(node, ast.Assign) for target in node.targets]
    return defined_in(tree) + constants


class TestFiles(unittest.TestCase):

    def test_only_python_files_stand_in_the_package(self):
        self.assertIn(PACKAGE / "__init__.py", FILES)
        for path in FILES:
            self.assertRegex(path.name, r"^[a-z0-9_]+\.py$")

    def test_sizes_and_signs(self):
        for path in FILES:
            text = path.read_bytes().decode("ascii")
            lines = text.split("\n")
            self.assertLessEqual(len(lines), 399, path)
            for line in lines:
                self.assertLessEqual(len(line), 120, path)
                self.assertTrue(line.isprintable(), path)
            for node in ast.walk(tree_of(path)):
                if isinstance(node, ast.FunctionDef):
                    self.assertLessEqual(node.end_lineno - node.lineno + 1, 40, node.name)

    def test_imports_name_what_the_imported_file_defines(self):
        for path in FILES:
            for node in ast.walk(tree_of(path)):
                self.assertNotIsInstance(node, ast.Import, path)
                if isinstance(node, ast.ImportFrom) and node.module not in LIBRARY:
                    package, file = node.module.split(".")
                    self.assertEqual((node.level, package), (0, "barstay"), path)
                    for name in node.names:
                        self.assertIn(name.name, bound_in(tree_of(PACKAGE / f"{file}.py")))

    def test_each_name_of_the_interface_is_defined_in_its_file(self):
        for file, names in INTERFACE.items():
            defined = defined_in(tree_of(PACKAGE / f"{file}.py"))
            for name in names:
                self.assertEqual(defined.count(name), 1, name)

    def test_each_method_of_the_interface_is_defined_in_its_class(self):
        for file, classes in METHODS.items():
            found = []
            for node in tree_of(PACKAGE / f"{file}.py").body:
                if isinstance(node, ast.ClassDef) and node.name in classes:
                    found.append(node.name)
                    for name in ["__init__"] + classes[node.name]:
                        self.assertEqual(defined_in(node).count(name), 1, name)
            self.assertEqual(found, sorted(classes), file)

    def test_the_examples_of_the_readme(self):
        text = (ROOT / "README.md").read_text().replace("```", "")
        test = doctest.DocTestParser().get_doctest(text, {}, "README.md", "README.md", 0)
        runner = doctest.DocTestRunner()
        runner.run(test)
        self.assertGreater(runner.tries, 0)
        self.assertEqual(runner.failures, 0)


if __name__ == "__main__":
    unittest.main()
