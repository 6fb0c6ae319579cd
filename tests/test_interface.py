"""The interface: names, arguments, and the files in which they are defined."""

import importlib
import inspect
import unittest

FUNCTIONS = {
    "trees": {
        "edited": "tree edit", "between": "old new", "touched": "old new", "merged": "base ours theirs",
    },
    "files": {
        "check": "tree", "settled": "tree facts", "asked_facts": "tree", "goals": "tree", "rules": "tree",
        "places": "tree",
    },
    "packages": {"solved": "registry goals", "refutes": "registry goals paper"},
    "building": {
        "built": "tree facts registry", "traces": "tree facts registry", "rebuilt": "tree facts registry store",
        "failing": "tree facts registry",
    },
    "proofs": {"trace_holds": "trace", "paper_holds": "tree facts registry paper"},
    "reach": {
        "unturned": "old new facts registry", "reach": "old new facts registry",
        "why": "tree facts registry name paths",
    },
    "owners": {"approvals": "tree path", "approved": "old new author given"},
}
CLASSES = {
    "errors": {
        "BadValue": "self at", "BadFile": "self path at", "NoSolution": "self paper", "BadSyntax": "self at",
    },
    "trees": {"Tree": "self files"},
}


def module(name):
    return importlib.import_module("releasehouse." + name)


class InterfaceTest(unittest.TestCase):

    def test_functions(self):
        for file, functions in FUNCTIONS.items():
            for name, arguments in functions.items():
                function = getattr(module(file), name)
                self.assertTrue(inspect.isfunction(function))
                self.assertEqual(function.__module__, "releasehouse." + file)
                self.assertEqual(" ".join(inspect.signature(function).parameters), arguments)

    def test_classes(self):
        for file, classes in CLASSES.items():
            for name, arguments in classes.items():
                kind = getattr(module(file), name)
                self.assertTrue(inspect.isclass(kind))
                self.assertEqual(kind.__module__, "releasehouse." + file)
                self.assertEqual(" ".join(inspect.signature(kind.__init__).parameters), arguments)

    def test_tree(self):
        tree = module("trees").Tree
        self.assertIsInstance(vars(tree)["files"], property)
        self.assertEqual(inspect.signature(tree.__init__).parameters["files"].default, ())

    def test_house_error(self):
        self.assertEqual(module("errors").HouseError.__module__, "releasehouse.errors")


if __name__ == "__main__":
    unittest.main()
