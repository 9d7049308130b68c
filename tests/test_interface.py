"""What is told of the files: the interface, and the plainest rules of the language."""

import ast
import importlib
import inspect
import os
import unittest

FOLDER = os.path.join(os.path.dirname(os.path.dirname(os.path.abspath(__file__))), "smallchange")
INTERFACE = {
    "boards": {"board_error": ["value"]},
    "desks": {"desk_error": ["value"], "takes": ["desk", "x"], "gives": ["desk", "x"], "needed_uses": ["desk"],
              "use_rule": ["desk"], "all_rule": ["desk"], "board_of": ["k", "desks"]},
    "rules": {"rule_error": ["value"], "canonical": ["table", "period", "rise"], "value_of": ["rule", "x"],
              "least_for": ["rule", "y"], "sum_of": ["rule", "low", "high"], "first_above": ["one", "other"]},
    "folds": {"sum_rule": ["one", "other"], "best_rule": ["one", "other"], "then_rule": ["first", "second"],
              "inverse_rule": ["rule"]},
    "splits": {"split_rule": ["one", "other"], "star_rule": ["rule"], "star_parts": ["rule", "x"]},
    "ways": {"walk": ["board", "purse", "way"], "need_of": ["board", "way"], "change_of": ["board", "way"]},
    "covers": {"cover": ["board", "purse"], "cover_holds": ["board", "purse", "value"],
               "reach": ["board", "purse", "goal"], "reach_holds": ["board", "purse", "goal", "value"],
               "most": ["board", "purse", "kind"], "most_holds": ["board", "purse", "kind", "value"],
               "fewest_uses": ["board", "purse", "goal"], "shortest_way": ["board", "purse", "goal"]},
    "prices": {"worths": ["board"], "worths_hold": ["board", "value"], "loop_purse": ["board", "indexes"],
               "leads": ["board", "one", "other"], "ratio": ["board", "one", "other"],
               "best_trail": ["board", "one", "other"]},
    "rich": {"weights": ["board", "kind"], "losses": ["board", "kind"], "order": ["board", "kind"],
             "is_one_class": ["board", "kind", "one", "other"], "lack": ["board", "kind", "purse"],
             "bound": ["board", "kind", "purse"], "rich_way": ["board", "kind", "purse"], "lacks": ["board", "kind"],
             "lacks_hold": ["board", "kind", "value"]},
    "gains": {"back_kinds": ["board", "kind"], "gain_from": ["board", "a", "x"],
              "gain_holds": ["board", "a", "x", "value"], "least_gain": ["board", "a"], "shortest_gain": ["board", "a"],
              "stair": ["board", "a", "b"]},
    "amounts": {"amount_rule": ["board", "a", "c"], "amount_way": ["board", "a", "c", "x"],
                "least_amount": ["board", "a", "c", "y"], "endless_from": ["board", "a", "c"],
                "first_unlike": ["one", "other", "a", "c"], "idle_offers": ["board", "a", "c"]},
    "texts": {"board_text": ["names", "board"], "parse_board": ["value"], "way_text": ["way"], "parse_way": ["value"],
              "purse_text": ["names", "purse"], "parse_purse": ["names", "value"]},
}
# each class with its arguments, and its methods with theirs, self left out
CLASSES = {
    "values": {
        "Purse": (["amounts"], {"covers": ["other"], "__add__": ["other"], "__sub__": ["other"], "__mul__": ["other"],
                                "__getitem__": 1, "__contains__": 1, "__len__": 0, "__str__": 0, "__eq__": 1,
                                "__iter__": 0}),
        "Rule": (["value"], {"is_below": ["other"], "is_above": ["other"], "of": ["table", "period", "rise"],
                             "__call__": ["x"], "__add__": ["other"], "__or__": ["other"], "__rshift__": ["other"],
                             "__xor__": ["other"], "__len__": 0, "__str__": 0, "__eq__": 1, "__iter__": 0}),
    },
    "promises": {"Reserve": (["kind", "least"], {"spare": ["amount"]})},
    "tills": {
        "Till": (["board", "purse"], {
            "use": ["index", "times"], "add": ["a", "x", "b", "y"], "drop": ["index"], "give": ["kind", "amount"],
            "take": ["kind", "amount"], "undo": [], "attempt": ["edits", "watch"], "most": ["kind"],
            "state": ["version"], "each_offer": ["version"], "edits": [], "__len__": 0, "__str__": 0, "__eq__": 1}),
        "SureTill": (["board", "purse", "kind", "least"], {}),
    },
    "consoles": {"Console": (["till"], {"execute": ["line"]})},
}
ATTRIBUTES = {"Purse": ["amounts"], "Rule": ["value", "table", "period", "rise"], "Reserve": ["kind", "least"],
              "Till": ["board", "purse", "loop"], "SureTill": ["board", "purse", "loop", "reserve"]}
BY_KEYWORD = {("attempt", "watch"): None, ("state", "version"): None, ("each_offer", "version"): None}
LIBRARY = ("heapq", "math", "itertools", "collections")


def sources():
    """The names and texts of the files of the package."""
    for name in sorted(os.listdir(FOLDER)):
        if name != "__pycache__":
            with open(os.path.join(FOLDER, name), encoding="utf-8") as file:
                yield name, file.read()


class InterfaceTest(unittest.TestCase):
    def test_functions_stand_in_their_files(self):
        for name, functions in INTERFACE.items():
            module = importlib.import_module("smallchange." + name)
            for function, parameters in functions.items():
                found = getattr(module, function)
                self.assertEqual(found.__module__, "smallchange." + name)
                self.assertEqual(list(inspect.signature(found).parameters), parameters)


    def test_classes_stand_in_their_files(self):
        for name, classes in CLASSES.items():
            module = importlib.import_module("smallchange." + name)
            for told, (arguments, methods) in classes.items():
                found = getattr(module, told)
                self.assertEqual(found.__module__, "smallchange." + name)
                self.assertEqual(list(inspect.signature(found).parameters), arguments)
                for method, parameters in methods.items():
                    # in the class itself, not only in a base class
                    self.assertIn(method, vars(found), told)
                    got = list(inspect.signature(getattr(found, method)).parameters)[0 if method == "of" else 1:]
                    if isinstance(parameters, int):
                        self.assertEqual(len(got), parameters)
                    else:
                        self.assertEqual(got, parameters)

    def test_arguments_by_keyword(self):
        till = importlib.import_module("smallchange.tills").Till
        for (method, argument), default in BY_KEYWORD.items():
            told = inspect.signature(getattr(till, method)).parameters[argument]
            self.assertEqual((told.kind, told.default), (inspect.Parameter.KEYWORD_ONLY, default))

    def test_attributes_are_set_at_once(self):
        tills = importlib.import_module("smallchange.tills")
        values = importlib.import_module("smallchange.values")
        promises = importlib.import_module("smallchange.promises")
        board = (2, ((0, 2, 1, 4),))
        for made in [values.Purse((1,)), values.Rule(((0,), 1, 0)), values.Rule.of((0,), 1, 0), promises.Reserve(0, 0),
                     tills.Till(board, (0, 0)), tills.SureTill(board, (0, 0), 0, 0)]:
            for attribute in ATTRIBUTES[type(made).__name__]:
                self.assertIn(attribute, vars(made))
        self.assertEqual(vars(tills.Till)["MOST_EDITS"], 60)
        self.assertTrue(issubclass(tills.SureTill, tills.Till))


class LanguageTest(unittest.TestCase):
    def test_files(self):
        for name, text in sources():
            self.assertRegex(name, "^[a-z_]+[.]py$")
            lines = text.split("\n")
            self.assertLessEqual(len(lines), 400, name)
            self.assertLessEqual(max(len(line) for line in lines), 120, name)
            self.assertTrue(all(char == "\n" or " " <= char <= "~" for char in text), name)

    def test_functions_are_small(self):
        for name, text in sources():
            for node in ast.walk(ast.parse(text)):
                if isinstance(node, ast.FunctionDef):
                    self.assertLessEqual(node.end_lineno - node.lineno + 1, 40, (name, node.name))

    def test_imports(self):
        for name, text in sources():
            for node in ast.walk(ast.parse(text)):
                self.assertNotIsInstance(node, ast.Import, name)
                if isinstance(node, ast.ImportFrom):
                    self.assertTrue(node.module.startswith("smallchange.") or node.module in LIBRARY, name)
                    self.assertFalse(any(alias.name == "*" or alias.asname for alias in node.names), name)

    def test_no_floats_and_no_state(self):
        for name, text in sources():
            tree = ast.parse(text)
            for node in ast.walk(tree):
                self.assertNotIsInstance(node, (ast.Div, ast.Global, ast.AsyncFunctionDef), name)
                if isinstance(node, ast.Constant):
                    self.assertNotIsInstance(node.value, (float, complex), name)
                    self.assertFalse(isinstance(node.value, str) and "%" in node.value, name)
            kinds = (ast.Expr, ast.ImportFrom, ast.FunctionDef, ast.ClassDef, ast.Assign)
            self.assertTrue(all(isinstance(node, kinds) for node in tree.body), name)


if __name__ == "__main__":
    unittest.main()
