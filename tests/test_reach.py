"""Reach: points 5, 46, 50, 51 and 75."""

import random
import unittest

from releasehouse.building import built, rebuilt, traces
from releasehouse.errors import NoSolution
from releasehouse.files import rules
from releasehouse.packages import refutes
from releasehouse.reach import reach, unturned, why
from releasehouse.trees import Tree, edited, touched

from helpers import ODD, Asking, listed, one_file
from reference import FACTS, REGISTRY, all_traces, tree_of

RULES = (
    "target main = file app/main",
    "target all = cat each app names doc",
    "target color = set color",
    "target packs = cat pack lib version tool",
    "target both = cat dep main dep color",
    "target way = if file flag dep main set hue",
    "test fine = has dep both lit run",
    "test still = lit ok",
)
TREE = Tree((
    ("app/main", "run"),
    ("app/other", "x"),
    ("build/all", "\n".join(RULES)),
    ("pack/goals", "need lib 2 9\n"),
    ("set/all", "color = red\n"),
))
ALL = ("main", "all", "color", "packs", "both", "way", "fine", "still")


def words(text):
    return tuple(text.split())


def changed(tree, *edit):
    return edited(tree, tuple(sorted(edit, key=lambda change: change[1])))


def near(chance, tree):
    """Return a tree that differs from this one in a few paths."""
    other = dict(tree_of(chance).files)
    # The rules files go together, as a line may name one of the file ahead.
    built_paths = [path for path in other if path.startswith("build/")]
    paths = chance.sample(sorted(path for path in other if path not in built_paths), chance.randint(0, 3))
    files = {**dict(tree.files), **{path: other[path] for path in paths}}
    if chance.random() < 0.3:
        files.update({path: other[path] for path in built_paths})
    if chance.random() < 0.3:
        files.pop(chance.choice(sorted(path for path in files if path not in built_paths)))
    return Tree(tuple(sorted(files.items())))


def with_same_rules(old, new):
    """Return the new tree with the rules files of the old one."""
    files = {path: content for path, content in new.files if not path.startswith("build/")}
    files.update({path: content for path, content in old.files if path.startswith("build/")})
    return Tree(tuple(sorted(files.items())))


class UnturnedTest(Asking, unittest.TestCase):

    def turns(self, new, turned, old=TREE, facts=(), registry=REGISTRY):
        """Just these names are turned by the change from old to new."""
        names = tuple(name for _, name, _ in rules(new))
        left = tuple(name for name in names if name not in words(turned))
        self.same(unturned(old, new, facts, registry), left)
        self.same(reach(old, new, facts, registry), tuple(name for name in names if name in words(turned)))

    def test_no_change(self):
        self.turns(TREE, "")
        self.turns(Tree(), "", Tree())
        self.same(unturned(old=TREE, new=TREE, facts=[], registry=listed(REGISTRY)), ALL)
        self.same(reach(old=TREE, new=TREE, facts=[], registry=listed(REGISTRY)), ())

    def test_sources(self):
        self.turns(changed(TREE, ("put", "app/main", "walk")), "main all both fine")
        self.turns(changed(TREE, ("drop", "app/main")), "main all both fine")
        self.turns(changed(TREE, ("put", "app/other", "y")), "all")
        self.turns(changed(TREE, ("put", "app/next/one", "")), "all")
        self.turns(changed(TREE, ("put", "doc/a", "x")), "all")
        doc = changed(TREE, ("put", "doc/a", "x"))
        self.turns(changed(doc, ("put", "doc/a", "y")), "", doc)
        self.turns(changed(TREE, ("put", "doc", "x"), ("put", "app", "x"), ("put", "app0/a", "x")), "")
        self.turns(changed(TREE, ("put", "flag", "")), "way")
        flag = changed(TREE, ("put", "flag", "on"))
        self.turns(flag, "way")
        self.turns(changed(flag, ("put", "app/main", "walk")), "main all both way fine", flag)
        self.turns(changed(flag, ("put", "set/b", "hue = x\n")), "", flag)

    def test_settings(self):
        self.turns(changed(TREE, ("put", "set/all", "color = blue\n")), "color both fine")
        self.turns(changed(TREE, ("put", "set/all", "\n\ncolor = red\nshape = round\n")), "")
        self.turns(changed(TREE, ("drop", "set/all"), ("put", "set/b", "color = red\n")), "")
        # Way is bad with file, ahead of what the hue is.
        self.turns(changed(TREE, ("put", "set/b", "hue = x\n")), "")
        new = changed(TREE, ("put", "set/all", "color = red\nwhen land is fr\ncolor += blue\nend\n"))
        self.turns(new, "")
        self.turns(new, "color both fine", facts=[["land", "fr"]])
        self.turns(new, "", facts=(("land", "de"),))

    def test_goals(self):
        self.turns(changed(TREE, ("put", "pack/goals", "need lib 1 9\nneed tool 1 9\n")), "")
        self.turns(changed(TREE, ("put", "pack/goals", "need lib 1 1\n")), "packs")
        self.turns(changed(TREE, ("drop", "pack/goals")), "packs")

    def test_results_that_are_the_same_all_the_same(self):
        tree = Tree((("a", "x"), ("build/all", "target b = size file a\ntarget c = dep b\ntest d = file a"),))
        new = changed(tree, ("put", "a", "y"))
        self.same(built(tree, (), ())[:2], built(new, (), ())[:2])
        self.turns(new, "b d", tree)

    def test_rules(self):
        def with_rules(*lines):
            return changed(TREE, ("put", "build/all", "\n".join(lines)))

        self.turns(with_rules(*RULES[:4]), "")
        self.turns(with_rules("target new = line", *RULES), "new")
        self.turns(with_rules(*RULES[:7], "test still = lit no"), "still")
        self.turns(with_rules("target main = up file app/main", *RULES[1:]), "main both fine")
        # The same of target and test.
        self.turns(with_rules(*RULES[:7], "target still = lit ok"), "still")
        self.turns(with_rules("test main = file app/main"), "main")
        new = with_rules("test all = cat each app names doc", "test color = set color", "target fine = lit x")
        self.turns(new, "all color fine")
        # Another name with the expression of one that was there.
        self.turns(with_rules(RULES[0], "target second = file app/main"), "second")
        # The order of new's row.
        self.turns(with_rules(*(RULES[at] for at in (7, 2, 0, 4, 1))), "")
        new = with_rules(*(RULES[at] for at in (7, 2, 0, 4, 1)))
        self.same(unturned(TREE, new, (), REGISTRY), words("still color main both all"))
        new = changed(new, ("put", "app/main", "walk"))
        self.same(reach(TREE, new, (), REGISTRY), words("main both all"))

    def test_names_of_one_tree_alone(self):
        self.turns(TREE, "main all color packs both way fine still", Tree())
        self.turns(Tree(), "")

    def test_random_trees(self):
        chance = random.Random(50)
        for _ in range(200):
            old = tree_of(chance)
            new = chance.choice((near(chance, old), tree_of(chance)))
            facts = chance.choice(FACTS)
            before = dict(all_traces(old, facts, REGISTRY))
            now = dict(all_traces(new, facts, REGISTRY))
            kinds = [{name: word for word, name, _ in rules(tree)} for tree in (old, new)]
            same = tuple(
                name for name in now
                if name in before and kinds[0][name] == kinds[1][name] and repr(before[name]) == repr(now[name])
            )
            self.same(unturned(old, new, facts, REGISTRY), same)
            self.same(reach(old, new, facts, REGISTRY), tuple(name for name in now if name not in same))
            results = dict(built(old, facts, REGISTRY))
            _, fresh, _ = rebuilt(new, facts, REGISTRY, [trace for _, trace in traces(old, facts, REGISTRY)])
            for name in same:
                self.assertEqual(results[name], dict(built(new, facts, REGISTRY))[name])
                self.assertNotIn(name, fresh)
            self.assertLessEqual(set(fresh), set(reach(old, new, facts, REGISTRY)))


class WrongTest(Asking, unittest.TestCase):

    def test_wrong_arguments(self):
        for call in (unturned, reach):
            for value in ODD + [(), []]:
                self.bad_value(1, call, value, None, None, None)
                self.bad_value(2, call, one_file("set/a", "?"), value, None, None)
                if value != () and value != []:
                    self.bad_value(3, call, TREE, TREE, value, None)
                    self.bad_value(4, call, one_file("set/a", "?"), TREE, (), value)
            self.bad_value(4, call, TREE, one_file("set/a", "?"), (), REGISTRY + REGISTRY)

    def test_wrong_files(self):
        paths = ("build/a", "pack/goals", "set/a")
        unsolved = one_file("pack/goals", "need none 1 1")
        for call in (unturned, reach):
            for path in paths:
                wrong = one_file(path, "", "?")
                self.bad_file(path, 2, call, wrong, Tree(), (), ())
                self.bad_file(path, 2, call, Tree(), wrong, (), ())
                self.bad_file(path, 2, call, wrong, unsolved, (), ())
                # A wrong file of new comes ahead of old's goals without a solution.
                self.bad_file(path, 2, call, unsolved, wrong, (), ())
                for other in paths:
                    self.bad_file(path, 2, call, wrong, one_file(other, "?"), (), ())
            both = Tree((("pack/goals", "?"), ("set/a", "?")))
            self.bad_file("pack/goals", 1, call, both, one_file("build/a", "?"), (), ())
            right = Tree((("fleet/places", "?"), ("own/rules", "?")))
            self.same(call(right, right, (), ()), ())

    def test_no_solution(self):
        first = one_file("pack/goals", "need one 1 1")
        second = one_file("pack/goals", "need two 1 1")
        cases = (
            (first, Tree(), "one"), (Tree(), second, "two"), (first, second, "one"), (second, first, "two"),
        )
        for call in (unturned, reach):
            for old, new, name in cases:
                with self.assertRaises(NoSolution) as caught:
                    call(old, new, (), REGISTRY)
                self.same(caught.exception.paper, ("pick", name, ()))
                self.assertTrue(refutes(REGISTRY, ((name, 1, 1),), caught.exception.paper))


class WhyTest(Asking, unittest.TestCase):

    def hangs(self, name, *paths, tree=TREE, facts=()):
        for path in paths:
            self.assertIs(why(tree, facts, REGISTRY, name, (path,)), True, (name, path))

    def free(self, name, *paths, tree=TREE, facts=()):
        for path in paths:
            self.assertIs(why(tree, facts, REGISTRY, name, [path]), False, (name, path))
        self.assertIs(why(tree, facts, REGISTRY, name, tuple(sorted(paths))), False)

    def test_files(self):
        self.hangs("main", "app/main")
        self.free("main", "app", "app/main/a", "app/mainx", "app/other", "build/all", "set/all", "pack/goals")
        # Whether or not there is such a file.
        self.hangs("way", "flag")
        self.free("way", "app/main", "set/all", "flag/a")

    def test_paths_that_begin_so(self):
        self.hangs("all", "app/main", "app/none", "app/none/a/b", "doc/a", "doc/a/b")
        self.free("all", "app", "doc", "app0/a", "apps", "docs/a", "set/all")

    def test_settings_and_packages(self):
        self.hangs("color", "set/all", "set/none", "set/a/b/c")
        self.free("color", "set", "set0/a", "pack/goals", "app/main")
        self.hangs("packs", "pack/goals")
        self.free("packs", "pack", "pack/goals/a", "pack/other", "set/all")
        tree = one_file("build/all", "target a = pack lib", "target b = version lib")
        self.hangs("a", "pack/goals", tree=tree)
        self.hangs("b", "pack/goals", tree=tree)

    def test_by_targets(self):
        for name in ("both", "fine"):
            self.hangs(name, "app/main", "set/all", "set/none")
            self.free(name, "app/other", "pack/goals", "flag", "build/all")
        self.free("still", "app/main", "set/all", "pack/goals", "build/all", "flag")
        lines = ("target a = file x", "target b = dep a", "target c = dep b", "target d = cat dep c dep b")
        tree = one_file("build/all", *lines)
        for name in "abcd":
            self.hangs(name, "x", tree=tree)
            self.free(name, "y", tree=tree)

    def test_targets_that_are_read_by_many(self):
        lines = ["target a0 = not file x"] + [f"target a{at} = cat dep a{at - 1} dep a{at - 1}" for at in range(1, 40)]
        tree = Tree((("build/a", "\n".join(lines[:20])), ("build/b", "\n".join(lines[20:])), ("x", "x")))
        self.hangs("a39", "x", tree=tree)
        self.free("a39", "y", "set/a", tree=tree)

    def test_what_is_not_looked_at(self):
        flag = changed(TREE, ("put", "flag", "on"))
        self.hangs("way", "flag", "app/main", tree=flag)
        self.free("way", "set/all", tree=flag)
        flag = changed(TREE, ("put", "flag", ""))
        self.hangs("way", "flag", "set/all", tree=flag)
        self.free("way", "app/main", tree=flag)
        tree = one_file("build/all", "target a = cat file x file y", "target b = if set k file p file q")
        self.hangs("a", "x", tree=tree)
        self.free("a", "y", tree=tree)
        self.hangs("b", "q", "set/a", tree=tree)
        self.free("b", "p", tree=tree)
        tree = changed(tree, ("put", "set/a", "when land is fr\nk = a\nend"))
        self.hangs("b", "p", tree=tree, facts=[["land", "fr"]])
        self.free("b", "q", tree=tree, facts=(("land", "fr"),))
        self.free("b", "p", tree=tree, facts=(("land", "de"),))

    def test_some_of_the_paths(self):
        self.assertIs(why(TREE, (), REGISTRY, "main", ()), False)
        self.assertIs(why(TREE, (), REGISTRY, "main", []), False)
        self.assertIs(why(TREE, (), REGISTRY, "main", ("app/a", "app/main", "z")), True)
        self.assertIs(why(TREE, (), REGISTRY, "main", ("app/main", "z")), True)
        self.assertIs(why(TREE, (), REGISTRY, "main", ("app/a", "app/b", "z")), False)
        self.assertIs(why(tree=TREE, facts=(), registry=REGISTRY, name="main", paths=["a", "app/main"]), True)
        many = tuple(sorted(f"b{at}" for at in range(500)))
        self.assertIs(why(TREE, (), REGISTRY, "main", many), False)
        self.assertIs(why(TREE, (), REGISTRY, "main", ("app/main",) + many), True)

    def test_wrong_arguments(self):
        wrong = one_file("set/a", "?")
        unsolved = one_file("pack/goals", "need none 1 1")
        for value in ODD + [(), [], "Main", "out", ("main",), "app/main"]:
            self.bad_value(1, why, value, None, None, None, None)
            if value != () and value != []:
                self.bad_value(2, why, wrong, value, None, None, None)
                self.bad_value(3, why, wrong, (), value, None, None)
                if value != ("main",) and value != ["a"] and value != ("a", "b"):
                    self.bad_value(5, why, TREE, (), REGISTRY, "main", value)
            self.bad_value(4, why, TREE, (), REGISTRY, value, ())
            self.bad_value(4, why, TREE, (), REGISTRY, value, None)
            self.bad_file("set/a", 1, why, wrong, (), (), value, None)
            with self.assertRaises(NoSolution):
                why(unsolved, (), (), value, None)
        self.bad_value(4, why, Tree(), (), (), "main", ())
        for paths in (("b", "a"), ("a", "a"), ("a", "B"), ("a", "a/"), ("a", None), ("a/b/c/d/e",), ("",), (("a",),)):
            self.bad_value(5, why, TREE, (), REGISTRY, "main", paths)

    def test_the_same_rules(self):
        chance = random.Random(75)
        met = {}
        for _ in range(300):
            old = tree_of(chance)
            new = with_same_rules(old, near(chance, old))
            facts = chance.choice(FACTS)
            paths = touched(old, new)
            left = unturned(old, new, facts, REGISTRY)
            for name in [name for _, name, _ in rules(new)]:
                hangs = why(old, facts, REGISTRY, name, paths)
                self.assertTrue(hangs or name in left)
                met[(hangs, name in left)] = True
        self.assertEqual(set(met), {(True, True), (True, False), (False, True)})

    def test_what_the_traces_read(self):
        chance = random.Random(751)
        paths = ("app", "app/a", "app/a/b", "app/b", "doc/a", "none", "pack/goals", "set", "set/all", "set0/a")
        for _ in range(150):
            tree = tree_of(chance)
            facts = chance.choice(FACTS)
            found = {}
            for name, (_, readings, _) in all_traces(tree, facts, REGISTRY):
                found[name] = set()
                for word, thing, _ in readings:
                    if word == "dep":
                        found[name] |= found[thing]
                    found[name] |= {path for path in paths if {
                        "file": path == thing, "each": path.startswith(thing + "/"),
                        "names": path.startswith(thing + "/"), "set": path == "set/all", "dep": False,
                    }.get(word, path == "pack/goals")}
                for path in paths:
                    self.assertIs(why(tree, facts, REGISTRY, name, (path,)), path in found[name], (name, path))


if __name__ == "__main__":
    unittest.main()
