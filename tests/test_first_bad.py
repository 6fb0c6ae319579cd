"""The first tree from which on a name is bad: points 11 and 60."""

import random
import unittest

from releasehouse.building import built
from releasehouse.errors import NoSolution
from releasehouse.files import check, places, rules
from releasehouse.landing import first_bad
from releasehouse.trees import Tree, edited

from drawn import PACKAGES, edit_of, first_of
from helpers import ODD, Asking, ended, listed, tree_with

FILES = {
    "app/main": "run",
    "build/all": ended("target out = file app/main", "test fine = has dep out lit run", "test open = file app/none"),
    "fleet/places": ended("place north 1", "place south 2 land=fr"),
}
GOOD = tree_with(FILES)
LACKS = tree_with(FILES, app_main=None)
FAILS = tree_with(FILES, app_main="walk")


def is_bad(tree, registry, place, name):
    """What point 60 says of one tree."""
    if check(tree) is not None:
        return True
    facts = {row[0]: row[2] for row in places(tree)}
    words = {row[1]: row[0] for row in rules(tree)}
    if place not in facts or name not in words:
        return True
    try:
        result = dict(built(tree, facts[place], registry))[name]
    except NoSolution:
        return True
    return result != ("made", "ok") if words[name] == "test" else result[0] == "bad"


class FirstBadTest(Asking, unittest.TestCase):

    def first(self, wanted, trees, name="fine", place="north", registry=()):
        self.same(first_bad(trees, registry, place, name), wanted)
        self.same(first_bad(list(trees), listed(registry), place, name), wanted)
        self.same(first_bad(history=trees, registry=registry, place=place, name=name), wanted)

    def test_not_bad_in_the_last_one(self):
        self.first(None, (GOOD,))
        self.first(None, (FAILS, GOOD))
        self.first(None, (GOOD, FAILS, LACKS, GOOD))

    def test_from_the_first_on(self):
        self.first(0, (FAILS,))
        self.first(0, (FAILS, LACKS, FAILS))

    def test_only_the_last_one(self):
        self.first(1, (GOOD, FAILS))
        self.first(3, (GOOD, GOOD, GOOD, LACKS))

    def test_by_turns(self):
        self.first(4, (FAILS, GOOD, LACKS, GOOD, FAILS, LACKS))
        self.first(2, (GOOD, GOOD, FAILS, FAILS, FAILS))
        self.first(None, (FAILS, GOOD, LACKS, GOOD))

    def test_a_target_is_bad_only_if_its_result_is(self):
        self.first(None, (FAILS,), "out")
        self.first(1, (GOOD, LACKS), "out")
        self.first(0, (LACKS, LACKS), "out")
        long = tree_with(FILES, build_all="target out = cat cat each app each app each app", app_a="x" * 999,
                         app_b="x" * 999)
        self.first(None, (GOOD, tree_with(dict(long.files), app_b=None)), "out")
        self.first(1, (GOOD, long), "out")

    def test_a_test_that_is_bad_or_does_not_pass(self):
        self.first(0, (GOOD,), "open")
        self.first(None, (tree_with(FILES, app_none="ok"),), "open")
        self.first(0, (tree_with(FILES, app_none="ok2"),), "open")

    def test_wrong_trees(self):
        for more in (
            {"set_a": "?"}, {"own_rules": "?"}, {"pack_goals": "?"}, {"fleet_places": FILES["fleet/places"] + "?"},
            {"build_b": "?"},
        ):
            self.first(1, (GOOD, tree_with(FILES, **more)))
            self.first(None, (tree_with(FILES, **more), GOOD))
            self.first(0, (tree_with(FILES, **more), FAILS))

    def test_no_such_place(self):
        self.first(0, (GOOD,), place="east")
        self.first(1, (GOOD, tree_with(FILES, fleet_places="place south 1")))
        self.first(1, (GOOD, tree_with(FILES, fleet_places=None)))
        self.first(None, (tree_with(FILES, fleet_places=None), GOOD))

    def test_no_such_name(self):
        self.first(0, (GOOD,), "none")
        self.first(1, (GOOD, tree_with(FILES, build_all="test finer = lit ok")))
        self.first(None, (tree_with(FILES, build_all=None), GOOD))
        # The same name, once a test and once a target.
        self.first(None, (FAILS, tree_with(FILES, build_all="target fine = lit no")))
        self.first(1, (GOOD, tree_with(FILES, build_all="test fine = lit no")))

    def test_no_solution(self):
        tree = tree_with(FILES, pack_goals="need lib 2 2\n")
        self.first(1, (GOOD, tree))
        self.first(1, (GOOD, tree), registry=PACKAGES[:1])
        self.first(None, (GOOD, tree), registry=(("lib", 2, (), ""),))

    def test_packages_and_facts(self):
        tree = tree_with(
            FILES, build_b=ended("test lib = same version lib lit 1", "test land = same set land lit fr"),
            pack_goals="need lib 1 9\n", set_a=ended("when land is fr", "land = fr", "end"),
        )
        self.first(None, (GOOD, tree), "lib", registry=(("lib", 1, (), ""),))
        self.first(0, (GOOD, tree), "lib", registry=(("lib", 1, (), ""), ("lib", 2, (), "")))
        self.first(0, (GOOD, tree), "land", registry=(("lib", 1, (), ""),))
        self.first(None, (GOOD, tree), "land", "south", (("lib", 1, (), ""),))

    def test_forty_trees(self):
        self.first(39, (GOOD,) * 39 + (FAILS,))
        self.first(1, (GOOD,) + (FAILS,) * 39)
        self.bad_value(1, first_bad, (GOOD,) * 41, (), "north", "fine")
        self.bad_value(1, first_bad, (), (), "north", "fine")

    def test_wrong_arguments(self):
        for value in ODD + [[], GOOD, (GOOD, None), [[GOOD]], GOOD.files]:
            self.bad_value(1, first_bad, value, None, None, None)
            self.bad_value(1, first_bad, value, (), "north", "fine")
        for value in ODD + [GOOD, PACKAGES[::-1]]:
            self.bad_value(2, first_bad, [GOOD], value, None, None)
            self.bad_value(2, first_bad, (GOOD,), value, "north", "fine")
        for value in ODD + [(), [], "North", "a b", "a23456789012x", "1a", GOOD]:
            if value not in ("a", "put", "drop", "clash"):
                self.bad_value(3, first_bad, (GOOD,), (), value, None)
                self.bad_value(3, first_bad, (GOOD,), (), value, "fine")
                self.bad_value(4, first_bad, (GOOD,), (), "north", value)
                self.bad_value(4, first_bad, (tree_with(FILES, set_a="?"),), [], "none", value)

    def test_drawn(self):
        chance = random.Random(60)
        found = {}
        for _ in range(120):
            trees = [first_of(chance)]
            for _ in range(chance.randint(0, 5)):
                trees.append(edited(trees[-1] if chance.random() < 0.5 else trees[0], edit_of(chance)))
            registry = tuple(sorted(chance.sample(PACKAGES, 3)))
            for place in ("north", "south", "none"):
                for name in ("out", "fine", "more", "hue"):
                    bad = [is_bad(tree, registry, place, name) for tree in trees]
                    wanted = None
                    for at in range(len(trees)):
                        if all(bad[at:]):
                            wanted = at
                            break
                    self.same(first_bad(trees, registry, place, name), wanted)
                    found[wanted] = found.get(wanted, 0) + 1
        self.assertGreater(len(found), 5)


if __name__ == "__main__":
    unittest.main()
