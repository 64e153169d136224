"""Point 20: the interface; and what of the language's rules is quickly told."""

import ast
import importlib
import inspect
import os
import unittest

FOLDER = os.path.join(os.path.dirname(os.path.dirname(os.path.abspath(__file__))), "keptmisses")
FUNCTIONS = {
    "machines": {"is_machine": ["thing"], "is_row": ["size", "thing"], "is_chances": ["size", "thing"],
                 "reached": ["machine"], "state_after": ["machine", "row"], "allowed": ["machine", "row"],
                 "misses": ["row", "told"]},
    "levels": {"level": ["worths"], "filled": ["worths"], "even_lot": ["worths"]},
    "heights": {"is_heights": ["machine", "thing"], "kept": ["machine"], "least_heights": ["machine"],
                "start": ["machine"]},
    "chancers": {"is_chancer": ["machine", "thing"], "is_winner": ["machine", "thing"],
                 "shares": ["machine", "chancer"], "gain": ["machine", "chancer"], "most_gain": ["machine"],
                 "winner": ["machine"], "best_chancer": ["machine"]},
    "guessers": {"chances_at": ["machine", "state"], "guess": ["machine", "row"], "all_guesses": ["machine", "row"]},
    "foes": {"foe": ["machine", "begin", "function"], "is_broken": ["machine", "begin", "function", "thing"]},
    "guessing": {"is_guessing": ["thing"], "is_endless": ["machine", "guessing", "thing"], "told_by": ["guessing", "row"],
                 "worst": ["machine", "guessing"], "as_guessing": ["machine"]},
    "compare": {"over": ["one", "other"], "is_over": ["one", "other", "thing"], "parting": ["one", "other"]},
    "algebra": {"added": ["machine", "amount"], "relettered": ["machine", "letters"], "mixed": ["one", "other", "part"],
                "trimmed": ["machine"]},
    "advisers": {"is_adviser": ["thing"], "is_circle": ["thing"], "adviser_misses": ["circle", "row"],
                 "lag": ["circle", "n"], "followed": ["circle", "n", "row"]},
    "notation": {"machine_text": ["machine"], "read_machine": ["text"]},
    "disks": {"lines": ["text"], "opened": ["disk"], "rest": ["text"], "noted": ["disk", "item", "most"],
              "rewritten": ["disk", "items", "most"], "standing": ["disk"]},
    "texts": {"thing_text": ["thing"], "sealed": ["thing"], "read_thing": ["text"], "unsealed": ["text"],
              "check": ["text"]},
    "stores": {"is_deed": ["store", "thing"]},
}
CLASSES = {
    "errors": {
        "MissError": {}, "NoSize": {}, "NoMachine": {}, "NoRow": {}, "NoChances": {}, "NoWorths": {}, "NoChancer": {},
        "NoState": {}, "NotKept": {}, "NoLetter": {}, "NothingRead": {}, "NoFraction": {}, "Held": {},
        "NoGuessing": {}, "OtherSize": {}, "NoBound": {}, "NoLetters": {}, "NoPart": {}, "NoCircle": {},
        "NoNumber": {}, "NoText": {}, "NoArea": {}, "NoStand": {}, "NoThing": {}, "NoItems": {}, "NoDeed": {},
        "Down": {}, "NotDown": {}, "TooMany": {"__init__": ["self", "most"]},
        "BadText": {"__init__": ["self", "place"]},
    },
    "guessers": {
        "Guesser": {"__init__": ["self", "machine"], "chances": ["self"], "read": ["self", "letter"],
                    "misses": ["self"], "spare": ["self"], "row": ["self"], "state": ["self"], "back": ["self"],
                    "copy": ["self"]},
    },
    "disks": {
        "Disk": {"__init__": ["self"], "area": ["self", "k"], "append": ["self", "k", "text", "most"],
                 "clear": ["self", "k"], "shorten": ["self", "k", "many"], "copy": ["self"],
                 "__eq__": ["self", "other"]},
    },
    "stores": {
        "Store": {"__init__": ["self", "machine"], "do": ["self", "deed"], "cut": ["self", "deed", "most"],
                  "fall": ["self"], "compact": ["self", "most"], "rise": ["self"], "machine": ["self"],
                  "ages": ["self"], "chances": ["self"], "misses": ["self"], "allowed": ["self"], "up": ["self"],
                  "disk": ["self"], "copy": ["self"]},
    },
}


def source(name):
    with open(os.path.join(FOLDER, name), encoding="utf-8") as file:
        return file.read()


def files():
    return sorted(name for name in os.listdir(FOLDER) if name != "__pycache__")


class Interface(unittest.TestCase):
    def test_functions_are_defined_where_they_are_listed(self):
        for module, functions in FUNCTIONS.items():
            defined = [node.name for node in ast.parse(source(module + ".py")).body if isinstance(node, ast.FunctionDef)]
            held = importlib.import_module("keptmisses." + module)
            for name, arguments in functions.items():
                self.assertEqual(defined.count(name), 1, name)
                self.assertEqual(list(inspect.signature(getattr(held, name)).parameters), arguments, name)

    def test_classes_are_defined_where_they_are_listed(self):
        for module, classes in CLASSES.items():
            nodes = [node for node in ast.parse(source(module + ".py")).body if isinstance(node, ast.ClassDef)]
            defined = {node.name: [part for part in node.body if isinstance(part, ast.FunctionDef)] for node in nodes}
            for name, methods in classes.items():
                told = {part.name: [argument.arg for argument in part.args.args] for part in defined[name]}
                for method, arguments in methods.items():
                    self.assertEqual(told[method], arguments, (name, method))


class Rules(unittest.TestCase):
    def test_only_python_files(self):
        for name in files():
            self.assertTrue(name.endswith(".py") and name == name.lower(), name)
        self.assertIn("__init__.py", files())

    def test_sizes_and_signs(self):
        for name in files():
            text = source(name)
            self.assertTrue(all(sign == "\n" or " " <= sign <= "~" for sign in text), name)
            self.assertLessEqual(len(text.splitlines()), 399, name)
            self.assertLessEqual(max(map(len, text.splitlines())), 120, name)

    def test_functions_are_short(self):
        for name in files():
            for node in ast.walk(ast.parse(source(name))):
                if isinstance(node, ast.FunctionDef):
                    self.assertLessEqual(node.end_lineno - node.lineno + 1, 40, (name, node.name))

    def test_imports_and_values(self):
        barred = (ast.GeneratorExp, ast.Import, ast.Global, ast.AsyncFunctionDef, ast.Await, ast.Div)
        for name in files():
            for node in ast.walk(ast.parse(source(name))):
                self.assertNotIsInstance(node, barred, name)
                if isinstance(node, ast.ImportFrom):
                    own = node.module.startswith("keptmisses.")
                    self.assertTrue(own or node.module in ("math", "itertools", "heapq", "collections"), name)
                if isinstance(node, ast.Constant):
                    self.assertNotIsInstance(node.value, (float, complex), name)


if __name__ == "__main__":
    unittest.main()
