"""The interface: names, arguments, and the files in which they are defined."""

import importlib
import inspect
import unittest

FUNCTIONS = {
    "trees": {
        "edited": "tree edit", "between": "old new", "touched": "old new", "merged": "base ours theirs",
    },
    "files": {
        "check": "tree", "settled": "tree facts", "asked_facts": "tree", "goals": "tree", "rules": "tree",
        "places": "tree",
    },
    "packages": {"solved": "registry goals", "refutes": "registry goals paper"},
    "building": {
        "built": "tree facts registry", "traces": "tree facts registry", "rebuilt": "tree facts registry store",
        "failing": "tree facts registry",
    },
    "proofs": {"trace_holds": "trace", "paper_holds": "tree facts registry paper"},
    "reach": {
        "unturned": "old new facts registry", "reach": "old new facts registry",
        "why": "tree facts registry name paths",
    },
    "owners": {"approvals": "tree path", "approved": "old new author given"},
    "landing": {
        "landing": "head registry proposal", "sound": "history landings", "land_all": "head registry proposals",
        "first_bad": "history registry place name",
    },
    "texts": {"printed": "value", "parse": "text"},
}
CLASSES = {
    "errors": {
        "BadValue": "self at", "BadFile": "self path at", "NoSolution": "self paper", "BadSyntax": "self at",
    },
    "trees": {"Tree": "self files"},
    "houses": {"House": "self tree registry"},
    "desk": {"Desk": "self"},
}
# The methods of a class, with their arguments, and its properties.
METHODS = {
    ("houses", "House"): {
        "pack": "self package", "propose": "self base edit author given", "land": "self", "release": "self",
        "begin": "self number", "step": "self", "report": "self place word", "halt": "self", "lost": "self",
        "cut": "self place", "runs": "self place", "running": "self place", "paper": "self place", "wave": "self place",
    },
    ("desk", "Desk"): {"run": "self command", "log": "self"},
}
PROPERTIES = {
    ("trees", "Tree"): ("files",),
    ("houses", "House"): ("history", "registry", "landings", "waiting", "work", "releases", "rollout"),
    ("desk", "Desk"): ("house",),
}


def module(name):
    return importlib.import_module("releasehouse." + name)


class InterfaceTest(unittest.TestCase):

    def test_functions(self):
        for file, functions in FUNCTIONS.items():
            for name, arguments in functions.items():
                function = getattr(module(file), name)
                self.assertTrue(inspect.isfunction(function))
                self.assertEqual(function.__module__, "releasehouse." + file)
                self.assertEqual(" ".join(inspect.signature(function).parameters), arguments)

    def test_classes(self):
        for file, classes in CLASSES.items():
            for name, arguments in classes.items():
                kind = getattr(module(file), name)
                self.assertTrue(inspect.isclass(kind))
                self.assertEqual(kind.__module__, "releasehouse." + file)
                self.assertEqual(" ".join(inspect.signature(kind.__init__).parameters), arguments)

    def test_methods(self):
        for (file, name), methods in METHODS.items():
            kind = getattr(module(file), name)
            for method, arguments in methods.items():
                # In the class itself, not only in a base class.
                self.assertTrue(inspect.isfunction(vars(kind)[method]))
                self.assertEqual(" ".join(inspect.signature(vars(kind)[method]).parameters), arguments)

    def test_properties(self):
        for (file, name), properties in PROPERTIES.items():
            for part in properties:
                self.assertIsInstance(vars(getattr(module(file), name))[part], property)

    def test_replayed(self):
        desk = module("desk").Desk
        self.assertIsInstance(vars(desk)["replayed"], (classmethod, staticmethod))
        self.assertEqual(list(inspect.signature(desk.replayed).parameters), ["log"])

    def test_defaults(self):
        tree, house = module("trees").Tree, module("houses").House
        self.assertEqual(inspect.signature(tree.__init__).parameters["files"].default, ())
        self.assertEqual(inspect.signature(house.__init__).parameters["registry"].default, ())
        self.assertIs(inspect.signature(house.__init__).parameters["tree"].default, inspect.Parameter.empty)

    def test_house_error(self):
        self.assertEqual(module("errors").HouseError.__module__, "releasehouse.errors")


if __name__ == "__main__":
    unittest.main()
