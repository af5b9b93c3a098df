"""The interface: every name is there under its file, with its arguments; and what README.md shows is so."""

import ast
import importlib
import inspect
import pathlib
import re
import unittest

from making import same_kinds

README = pathlib.Path(__file__).resolve().parent.parent / "README.md"
FUNCTIONS = {
    "values": "is_name/1 is_value/1 before/2 fields_told/1", "fitting": "is_test/1 fits/2", "store": "rows_of/1 copied/1",
    "ways": "is_way/1 tells/2 least_steps/1 turned/1 is_endless/1 rests/3", "apart": "apart/2",
    "walks": "legs_at/2 is_walk/5 reached/3 fence/4", "fencecheck": "shows_fence/5 shows_levels/5",
    "shortest": "shortest/4 levels/4", "plainwalks": "plain_walks/4", "counting": "how_many/4 all_walks/4",
    "loopcheck": "shows_loop/5", "patterns": "is_pattern/1", "asking": "ask/2 laid/3 witness/3", "laidcheck": "shows_laid/4",
    "tables": "is_table/1 table_of/3 columns/2 where/4 with_field/5 added/2 less/2", "joins": "joined/2 kept/2 lonely/2",
    "groups": "grouped/3", "plans": "is_plan/2 played/3", "bestplan": "best_plan/2", "rules": "is_rule/1 breach/2",
    "sheet": "read_sheet/1", "run": "run/1",
}
CLASSES = {
    ("store", "Store", 0): "add_place/2 add_tie/4 take_place/1 take_tie/1 set_place/3 set_tie/3 place/1 tie/1 places/0 ties/0 "
                           "out_of/1 into/1",
    ("dealer", "Dealer", 1): "add_rule/1 deal/1 told_store/0 told_rules/0",
    ("keeper", "Kept", 2): "answers/0 news/0 rows_with/1",
}


def arguments(function):
    """How many arguments are handed in by their places, each of which must be."""
    found = inspect.signature(function).parameters.values()
    assert all(each.kind is each.POSITIONAL_OR_KEYWORD and each.default is each.empty for each in found)
    return len(found)


def listed(text):
    return [(name, int(many)) for name, many in (each.split("/") for each in text.split())]


class Interface(unittest.TestCase):
    def test_functions(self):
        for home, names in FUNCTIONS.items():
            module = importlib.import_module(f"webstore.{home}")
            for name, many in listed(names):
                self.assertEqual(arguments(getattr(module, name)), many, name)

    def test_classes(self):
        for (home, name, many), methods in CLASSES.items():
            made = getattr(importlib.import_module(f"webstore.{home}"), name)
            self.assertTrue(inspect.isclass(made))
            self.assertEqual(arguments(made), many, name)
            for method, taken in listed(methods):
                self.assertEqual(arguments(getattr(made, method)), taken + 1, method)


def shown(comment):
    """The value that a remark shows, in a list; nothing where it shows none."""
    for text in (comment, comment.rpartition(":")[0]):
        try:
            return [ast.literal_eval(text.strip())]
        except (SyntaxError, ValueError):
            continue
    return []


class Readme(unittest.TestCase):
    def test_examples(self):
        known, looked = {}, 0
        for block in re.findall(r"```python\n(.*?)```", README.read_text("utf-8"), re.DOTALL):
            rows = block.split("\n")
            for node in ast.parse(block).body:
                if not isinstance(node, ast.Expr):
                    exec(compile(ast.Module([node], []), "README.md", "exec"), known)
                    continue
                told = eval(compile(ast.Expression(node.value), "README.md", "eval"), known)
                for wanted in shown(rows[node.end_lineno - 1].partition("#")[2]):
                    self.assertTrue(same_kinds(told, wanted), (ast.unparse(node), told, wanted))
                    looked += 1
        self.assertGreater(looked, 20)


if __name__ == "__main__":
    unittest.main()
