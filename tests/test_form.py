"""The interface and the form of the package: what can be seen without running it."""

import ast
import inspect
import pathlib
import unittest
from importlib import import_module

ROOT = pathlib.Path(__file__).resolve().parent.parent
FOLDER = ROOT / "ownlog"

FUNCTIONS = {
    "kinds": ["is_integer(thing)", "is_letter(thing)", "is_row(thing)", "is_tally(thing)",
              "is_text(thing, most)", "is_story(last, thing)"],
    "rows": ["call(row, place)", "follow(row, calls)"],
    "maps": ["shown(last, called, place)", "showing(last, called, place)"],
    "reading": ["count_before(far, letter, stop)", "letter_place(far, letter, number)", "copies(far, place)",
                "copy_at(far, place, number)", "copies_before(far, place, stop)"],
    "tallies": ["tally(row)", "far_tally(far)", "tally_after(tally, letters)", "tally_before(tally)",
                "most_called(tally)", "called(tally, calls)"],
    "counting": ["stories_many(row, tally, calls)", "story_of(row, tally, calls, number)", "story_number(row, story)"],
    "elders": ["elders(row)", "elder(row)", "obstacles(row)", "are_obstacles(row, thing)"],
    "pasts": ["past(row)", "pasts(row, *, limit=400)", "far_past(far)", "same(one, other)"],
    "joints": ["joint_step(row)", "joints(row)", "classes(row)"],
    "twins": ["root(text)", "twins(word, one, other, last)", "partners(row, place)",
              "are_twins(row, place, other, its, word)", "triple(word, one, other, last)"],
    "numbering": ["rows_many(letters, length, calls)", "seeds_many(letters, length)",
                  "row_of(letters, length, calls, number)", "number_of(letters, row, calls)"],
    "order": ["sorted_calls(row)", "least_story(row, calls)", "greatest_story(row, calls)",
              "first_difference(row, other, story)", "last_difference(row, other, story)",
              "differences(row, other, story)"],
    "patterns": ["occurrences(far, pattern)", "occurrences_before(far, pattern, stop)",
                 "pattern_place(far, pattern, number)", "first_from(far, pattern, start)", "pairs(far)",
                 "next_letters(far, pattern)"],
    "runs": ["longest_run(far, letter)", "runs_many(far, letter)"],
    "wishes": ["base_stories(row, size)", "begins(row, text)", "ends(row, text)", "stands(row, text)",
               "shortest(row, text, where, *, limit=400)", "together(row, beginning, insides, end)"],
    "tables": ["shows_no_beginning(row, text, thing)", "shows_no_end(row, text, thing)",
               "shows_no_place(row, text, thing)"],
    "notation": ["show_far(far)", "read_far(text)", "show_tally(tally)", "read_tally(text)"],
}
LIBRARY = ["heapq", "math", "itertools", "collections"]
METHODS = {
    ("far", "Far"): ["__init__(self, row, story)", "row(self)", "story(self)", "length(self)", "letter(self, place)",
                     "origins(self, place)", "piece(self, start, many)", "called(self)", "after(self, place)",
                     "__eq__(self, other)", "__repr__(self)"],
    ("books", "Book"): ["__init__(self, row)", "row(self)", "copied(self)", "call(self, place)", "follow(self, calls)",
                        "back(self)", "unwind(self)", "__eq__(self, other)", "__len__(self)"],
    ("console", "Console"): ["__init__(self)", "say(self, line)"],
}


def files():
    return sorted(FOLDER.iterdir())


def trees():
    return [(path.name, ast.parse(path.read_text(encoding="utf-8"))) for path in files() if path.suffix == ".py"]


def defined(body):
    return [node.name for node in body if isinstance(node, (ast.FunctionDef, ast.ClassDef))]


class Interface(unittest.TestCase):

    def test_functions_stand_in_their_files(self):
        for name, listed in FUNCTIONS.items():
            module = import_module("ownlog." + name)
            own = defined(ast.parse((FOLDER / (name + ".py")).read_text(encoding="utf-8")).body)
            for told in listed:
                function = told.partition("(")[0]
                self.assertIn(function, own)
                self.assertEqual(function + str(inspect.signature(getattr(module, function))), told)

    def test_methods_stand_in_their_classes(self):
        for (name, kind), listed in METHODS.items():
            tree = ast.parse((FOLDER / (name + ".py")).read_text(encoding="utf-8"))
            body = [node for node in tree.body if isinstance(node, ast.ClassDef) and node.name == kind][0].body
            methods = {node.name: ast.unparse(node.args) for node in body if isinstance(node, ast.FunctionDef)}
            for told in listed:
                method, _, rest = told.partition("(")
                self.assertEqual(methods[method], rest.removesuffix(")"))


class Form(unittest.TestCase):

    def test_the_folder_holds_python_files_only(self):
        names = [path.name for path in files() if path.name != "__pycache__"]
        self.assertEqual([name for name in names if not name.endswith(".py")], [])
        self.assertIn("__init__.py", names)

    def test_sizes_and_characters(self):
        for path in files():
            if path.suffix == ".py":
                text = path.read_text(encoding="utf-8")
                lines = text.split("\n")
                self.assertLessEqual(len(lines), 399, path.name)
                self.assertLessEqual(max(len(line) for line in lines), 120, path.name)
                self.assertEqual([sign for sign in text if sign != "\n" and not " " <= sign <= "~"], [], path.name)

    def test_functions_are_small(self):
        for name, tree in trees():
            for node in ast.walk(tree):
                if isinstance(node, ast.FunctionDef):
                    self.assertLessEqual(node.end_lineno - node.lineno + 1, 40, (name, node.name))

    def test_imports_are_of_the_package_and_not_in_a_circle(self):
        imports = {}
        for name, tree in trees():
            found = [node for node in ast.walk(tree) if isinstance(node, (ast.Import, ast.ImportFrom))]
            self.assertTrue(all(isinstance(node, ast.ImportFrom) and node.level == 0 for node in found), name)
            self.assertTrue(all(node in tree.body for node in found), name)
            found = [node for node in found if node.module not in LIBRARY]
            imports["ownlog." + name.removesuffix(".py")] = [node.module for node in found]
            for node in found:
                self.assertTrue(node.module.startswith("ownlog."), (name, node.module))
                body = ast.parse((ROOT / (node.module.replace(".", "/") + ".py")).read_text(encoding="utf-8")).body
                constants = [item.targets[0].id for item in body if isinstance(item, ast.Assign)]
                for alias in node.names:
                    self.assertIn(alias.name, defined(body) + constants)
        done = []
        while len(done) < len(imports):
            ready = [name for name in imports if name not in done and set(imports[name]) <= set(done)]
            self.assertNotEqual(ready, [], "imports in a circle")
            done += ready

    def test_words_that_the_language_leaves_out(self):
        left_out = (ast.AsyncFunctionDef, ast.Await, ast.Div, ast.MatMult, ast.TryStar)
        for name, tree in trees():
            for node in ast.walk(tree):
                self.assertNotIsInstance(node, left_out, name)
                self.assertFalse(isinstance(node, ast.Constant) and isinstance(node.value, float), name)


if __name__ == "__main__":
    unittest.main()
