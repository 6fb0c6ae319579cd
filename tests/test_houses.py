"""Houses: points 61 to 64 and 74, and what points 1, 2, 4, 5, 6 and 13 say of them."""

import unittest

from releasehouse.building import built, rebuilt, traces
from releasehouse.files import goals
from releasehouse.houses import House
from releasehouse.landing import land_all, sound
from releasehouse.proofs import paper_holds
from releasehouse.reach import reach
from releasehouse.trees import Tree, edited

from helpers import ODD, Asking, edit_to, ended, listed, one_file, plain_only, tree_with

FILES = {
    "app/main": "run",
    "app/other": "x",
    "build/all": ended("target out = cat file app/main set color", "test fine = has dep out lit run"),
    "fleet/places": ended("place south 2 land=fr", "place north 1"),
    "own/rules": ended("own app 1 ann bob"),
    "set/all": ended("color = red", "when land is fr", "color = blue", "end"),
}
TREE = tree_with(FILES)
PACKS = (("lib", 1, (), "one"), ("tool", 1, (), "tool"))
OUT = ("cat", "file", "app/main", "set", "color")


def acts(house):
    """Return all that can be seen of a house."""
    looks = []
    for place in ("north", "south", "east", "west"):
        looks.append((house.runs(place), house.running(place), house.wave(place), house.paper(place)))
    return (
        house.history, house.registry, house.landings, house.waiting, house.work, house.releases, house.rollout,
        tuple(looks),
    )


def roll(house, number):
    """Roll a release out to its end."""
    said = [house.begin(number)]
    while said[-1] != "done":
        said.append(house.step())
        if said[-1].startswith("wait "):
            house.report(said[-1][5:], "well")
    return said


class BeginningTest(Asking, unittest.TestCase):

    def test_a_new_house(self):
        house = House(TREE, PACKS)
        self.same(acts(house), ((TREE,), PACKS, (), 0, 0, (), None, ((None,) * 4,) * 4))
        self.same(acts(House(TREE)), ((TREE,), (), (), 0, 0, (), None, ((None,) * 4,) * 4))
        self.same(acts(House(tree=TREE, registry=listed(PACKS))), acts(house))
        self.same(acts(House(Tree())), ((Tree(),), (), (), 0, 0, (), None, ((None,) * 4,) * 4))

    def test_a_registry_that_is_changed_later(self):
        registry = listed(PACKS)
        house = House(TREE, registry)
        registry[0][3] = "changed"
        registry.pop()
        self.same(house.registry, PACKS)

    def test_wrong_arguments(self):
        for value in ODD + [(), [], FILES, House(TREE)]:
            self.bad_value(1, House, value, ())
            self.bad_value(1, House, value, None)
        for value in ODD + [TREE, PACKS[::-1], PACKS + PACKS]:
            self.bad_value(2, House, TREE, value)
            self.bad_value(2, House, one_file("set/a", "?"), value)

    def test_wrong_files(self):
        wrong = {
            "build/b": "target a = dep b\n", "fleet/places": "place a 0\n", "own/rules": "\nown a 1\n",
            "pack/goals": "\n\nneed a 2 1\n", "set/b": "end\n",
        }
        lines = {"build/b": 1, "fleet/places": 1, "own/rules": 2, "pack/goals": 3, "set/b": 1}
        for path in wrong:
            self.bad_file(path, lines[path], House, tree_with(FILES, **{path: wrong[path]}))
        for path in sorted(wrong):
            self.bad_file(path, lines[path], House, tree_with(FILES, **wrong))
            wrong.pop(path)

    def test_no_solution(self):
        tree = tree_with(FILES, pack_goals="need lib 2 2\n")
        self.no_solution(PACKS, goals(tree), House, tree, PACKS)
        self.no_solution((), goals(tree), House, tree)
        # Ahead of a test that does not pass, and behind a wrong file.
        self.no_solution((), goals(tree), House, tree_with(dict(tree.files), app_main="walk"))
        self.bad_file("set/b", 1, House, tree_with(dict(tree.files), set_b="?"))

    def test_tests_that_do_not_pass(self):
        self.bad_value(1, House, tree_with(FILES, app_main="walk"))
        self.bad_value(1, House, tree_with(FILES, build_b="test hue = has set color lit red\n"))
        self.bad_value(1, House, tree_with(FILES, build_b="test hue = has set color lit blue\n"))
        self.bad_value(1, House, tree_with(FILES, build_b="test one = file none\n"))
        House(tree_with(FILES, build_b="target one = file none\n"))
        House(tree_with(FILES, build_b="test hue = has set color lit re\n", fleet_places="place north 1"))
        # Where there is no place, no test is done.
        House(tree_with(FILES, app_main="walk", fleet_places=None))
        # Packages are those of the registry.
        tree = tree_with(FILES, build_b="test lib = same version lib lit 1\n", pack_goals="need lib 1 9\n")
        House(tree, PACKS)
        self.bad_value(1, House, tree, (("lib", 2, (), ""),))


class PackTest(Asking, unittest.TestCase):

    def test_ok_and_known(self):
        house = House(TREE)
        for package in (("tool", 2, (), ""), ("lib", 1, (("tool", 1, 2),), "x"), ("tool", 1, (), ""), ("a", 9, (), "")):
            self.same(house.pack(package), "ok")
        wanted = (("a", 9, (), ""), ("lib", 1, (("tool", 1, 2),), "x"), ("tool", 1, (), ""), ("tool", 2, (), ""))
        self.same(house.registry, wanted)
        self.same(house.pack(("lib", 1, (), "other")), "known")
        self.same(house.pack(package=["tool", 2, [], ""]), "known")
        self.same(house.registry, wanted)

    def test_lists(self):
        house = House(TREE)
        package = ["lib", 1, [["tool", 1, 2]], ""]
        self.same(house.pack(package), "ok")
        package[2][0][1] = 2
        package[2].clear()
        self.same(house.registry, (("lib", 1, (("tool", 1, 2),), ""),))

    def test_full(self):
        house = House(TREE, tuple((f"a{at:02}", 1, (), "") for at in range(29)))
        self.same(house.pack(("a00", 2, (), "")), "ok")
        self.assertEqual(len(house.registry), 30)
        self.same(house.pack(("a00", 2, (), "")), "known")
        self.same(house.pack(("a00", 3, (), "")), "full")
        self.same(house.pack(("zoo", 1, (), "")), "full")
        self.bad_value(1, house.pack, ("zoo", 0, (), ""))
        self.assertEqual(len(house.registry), 30)

    def test_wrong_packages(self):
        house = House(TREE)
        before = acts(house)
        wrong = [
            TREE, ("lib", 1, ()), ("lib", 10, (), ""), ("lib", True, (), ""), ("Lib", 1, (), ""), ("lib", 1, "", ""),
            ("lib", 1, (("a", 2, 1),), ""), ("lib", 1, (("b", 1, 1), ("a", 1, 1)), ""), ("lib", 1, (), None),
            ("lib", 1, tuple((name, 1, 1) for name in "abcde"), ""), ("lib", 1, (), "x" * 1001), ("lib", 1, (), "", ""),
        ]
        for value in ODD + [(), []] + wrong:
            self.bad_value(1, house.pack, value)
        self.same(acts(house), before)


class ProposeTest(Asking, unittest.TestCase):

    def test_ok(self):
        house = House(TREE)
        self.same(house.propose(0, edit_to(app_main="run 1"), "joe", ("ann",)), "ok")
        self.same(house.propose(base=0, edit=[["put", "doc", "x"]], author="joe", given=[]), "ok")
        self.same(house.waiting, 2)
        self.same(house.history, (TREE,))
        self.same(house.land(), "landed 1")
        self.same(house.land(), "landed 2")
        self.same(house.waiting, 0)
        self.same(house.landings, (
            ((), (TREE, (("put", "app/main", "run 1"),), "joe", ("ann",))), ((), (TREE, (("put", "doc", "x"),), "joe", ())),
        ))

    def test_lists_that_are_changed_later(self):
        house = House(TREE)
        edit, given = [["put", "app/main", "run 1"]], ["ann"]
        house.propose(0, edit, "joe", given)
        edit[0][2] = "run 2"
        edit.append(["drop", "doc"])
        given.clear()
        self.same(house.land(), "landed 1")
        self.same(house.history[1], tree_with(FILES, app_main="run 1"))

    def test_base(self):
        house = House(TREE)
        house.propose(0, edit_to(app_main="run 1"), "joe", ("ann",))
        self.bad_value(1, house.propose, 1, (), "joe", ())
        house.land()
        self.same(house.propose(1, edit_to(app_main="run 2"), "joe", ("ann",)), "ok")
        self.same(house.propose(0, edit_to(app_main="run 3"), "joe", ("ann",)), "ok")
        self.same(house.land(), "landed 2")
        self.same(house.land(), "clash app/main")
        before = acts(house)
        for value in ODD + [3, 10, (), TREE, "0"]:
            if value is not True and value is not False and value in (0, 1):
                continue
            self.bad_value(1, house.propose, value, (), "joe", ())
            self.bad_value(1, house.propose, value, None, None, None)
        self.same(acts(house), before)

    def test_edit(self):
        house = House(TREE)
        before = acts(house)
        wrong = [(("put", "a"),), (("put", "b", ""), ("put", "a", "")), (("drop", "A"),), TREE]
        for value in ODD + wrong:
            self.bad_value(2, house.propose, 0, value, "joe", ())
            self.bad_value(2, house.propose, 0, value, None, None)
        many = tuple(("put", f"f{at:02}", "") for at in range(55))
        self.bad_value(2, house.propose, 0, many, "joe", ())
        self.same(acts(house), before)
        self.same(house.propose(0, many[:54], "joe", ()), "ok")
        self.same(house.propose(0, (("drop", "app/main"),) + many, "joe", ()), "ok")
        self.same(house.land(), "landed 1")
        # An edit for the tree that it is made on, not for the newest one.
        self.bad_value(2, house.propose, 1, edit_to(one=""), "joe", ())
        self.same(house.propose(0, edit_to(one=""), "joe", ()), "ok")

    def test_author_and_given(self):
        house = House(TREE)
        before = acts(house)
        for value in ODD + ["Joe", "joe ", (), TREE]:
            if value not in ("a", "put", "drop", "clash"):
                self.bad_value(3, house.propose, 0, (), value, ())
                self.bad_value(3, house.propose, 0, (), value, None)
        for value in ODD + [("b", "a"), ("a", "a"), tuple("abcdefghi"), TREE, "ann"]:
            if value not in (["a"], ("a", "b"), ("drop", "a")):
                self.bad_value(4, house.propose, 0, (), "joe", value)
        self.same(acts(house), before)
        self.same(house.propose(0, (), "joe", list("abcdefgh")), "ok")

    def test_twelve_wait(self):
        house = House(Tree())
        for at in range(12):
            self.same(house.propose(0, edit_to(**{f"f{at}": ""}), "joe", ()), "ok")
        self.same(house.propose(0, edit_to(more=""), "joe", ()), "full")
        self.same(house.waiting, 12)
        # What is wrong is told ahead of what is full.
        self.bad_value(1, house.propose, 1, (), "joe", ())
        self.bad_value(4, house.propose, 0, (), "joe", None)
        self.same(house.land(), "landed 1")
        self.same(house.propose(0, edit_to(more=""), "joe", ()), "ok")
        self.same(house.propose(0, edit_to(most=""), "joe", ()), "full")
        self.same([house.land() for _ in range(13)], [f"landed {at}" for at in range(2, 14)] + ["none"])
        self.same([path for path, _ in house.history[-1].files], sorted([f"f{at}" for at in range(12)] + ["more"]))

    def test_forty_trees(self):
        house = House(Tree())
        for at in range(35):
            self.same(house.propose(at, edit_to(**{f"f{at}": ""}), "joe", ()), "ok")
            self.same(house.land(), f"landed {at + 1}")
        for at in range(4):
            self.same(house.propose(0, edit_to(set_a=f"a = b{at}"), "joe", ()), "ok")
        self.same((len(house.history), house.waiting), (36, 4))
        self.same(house.propose(0, (), "joe", ()), "full")
        self.bad_value(1, house.propose, 36, (), "joe", ())
        self.same(house.land(), "landed 36")
        self.same(house.propose(0, (), "joe", ()), "full")
        # A proposal that is bounced leaves room for another one.
        self.same(house.land(), "clash set/a")
        self.same(house.propose(36, edit_to(f0=None), "joe", ()), "ok")
        self.same(house.propose(0, (), "joe", ()), "full")
        self.same([house.land() for _ in range(4)], ["clash set/a", "clash set/a", "landed 37", "none"])
        for at in (38, 39):
            self.same(house.propose(0, (), "joe", ()), "ok")
        self.same(house.propose(0, (), "joe", ()), "full")
        self.same([house.land(), house.land(), house.land()], ["landed 38", "landed 39", "none"])
        self.same(house.propose(39, (), "joe", ()), "full")
        self.assertEqual(len(house.history), 40)
        self.same(sound(house.history, house.landings), True)


class LandTest(Asking, unittest.TestCase):

    def says(self, wanted, more, house=None, given=("ann",), base=0):
        """What land says of this edit."""
        house = House(TREE) if house is None else house
        count = len(house.history)
        self.same(house.propose(base, edit_to(**more), "joe", given), "ok")
        self.same(house.land(), wanted)
        self.same(len(house.history), count + wanted.startswith("landed"))
        return house

    def test_words(self):
        self.same(House(TREE).land(), "none")
        self.says("landed 1", {"app_main": "run 1"})
        self.says("file set/all 3", {"set_all": "\n\nend"})
        self.says("file build/a/b/c 1", {"build_a_b_c": "x", "build_b": "y"})
        self.says("own 0 1", {"app_main": "run 1"}, given=())
        self.says("own 1 2", {"own_rules": "\nown doc 1 ann\n", "doc": ""}, given=())
        self.says("packs", {"pack_goals": "need a 1 1"})
        self.says("test north fine", {"app_main": "walk"})
        self.says("test south hue", {"build_b": "test hue = same set color lit red\n"})

    def test_clash(self):
        house = self.says("landed 1", {"app_main": "run 1", "app_other": "y", "doc": "x"})
        self.says("clash app/main", {"app_main": "run 2"}, house)
        self.says("clash app/main,app/other,doc", {"app_main": "run 2", "app_other": None, "doc": "", "zoo": ""}, house)
        many = {f"f{at:02}": "" for at in range(53)}
        self.says("landed 2", many, house)
        self.says("clash", {"one": ""}, house)
        self.says("clash doc", {"one": "", "doc": ""}, house)

    def test_in_the_order_in_which_they_came(self):
        house = House(TREE)
        for name in ("c", "a", "b"):
            house.propose(0, edit_to(**{name: ""}), "joe", ())
        self.same([house.land(), house.land(), house.land(), house.land()], ["landed 1", "landed 2", "landed 3", "none"])
        files = [[path for path, _ in tree.files if path in ("a", "b", "c")] for tree in house.history]
        self.same(files, [[], ["c"], ["a", "c"], ["a", "b", "c"]])

    def test_with_the_registry_of_then(self):
        goal = {"pack_goals": "need lib 1 9\n", "build_b": "test lib = same version lib lit 1\n"}
        house = self.says("packs", goal)
        house.propose(0, edit_to(**goal), "joe", ())
        self.same(house.pack(PACKS[0]), "ok")
        self.same(house.land(), "landed 1")
        self.same(house.pack(("lib", 2, (), "")), "ok")
        self.says("test north lib", {"doc": "x"}, house)
        self.says("landed 2", {"build_b": None}, house, base=1)
        self.same(house.landings, (
            (PACKS[:1], (TREE, edit_to(**goal), "joe", ())),
            (PACKS[:1] + (("lib", 2, (), ""),), (house.history[1], edit_to(build_b=None), "joe", ("ann",))),
        ))
        self.same(sound(house.history, house.landings), True)

    def test_as_land_all(self):
        house = House(TREE, PACKS)
        edits = (
            edit_to(app_main="run 1"), edit_to(app_main="run 2"), edit_to(app_other="walk", app_main="walk"),
            edit_to(doc="x"), edit_to(set_all="?"), edit_to(build_b="test no = lit no"), edit_to(pack_goals="need a 1 1"),
            edit_to(pack_goals="need lib 1 1"), edit_to(own_rules=None),
        )
        for edit in edits:
            house.propose(0, edit, "joe", ("ann",))
        words = [house.land().split(" ")[0] for _ in edits]
        answers, trees = land_all(TREE, PACKS, [(TREE, edit, "joe", ("ann",)) for edit in edits])
        self.same(words, [word for word, _ in answers])
        self.same(house.history, trees)
        self.assertTrue(plain_only(house.landings))


class WorkTest(Asking, unittest.TestCase):

    def setUp(self):
        self.house = House(TREE, PACKS)

    def adds(self, wanted, said, given=("ann",), base=None, **more):
        """What an edit of the newest tree, or of base, adds to the work."""
        at = len(self.house.history) - 1 if base is None else base
        before = self.house.work
        self.assertEqual(self.house.propose(at, edit_to(**more), "joe", given), "ok")
        self.assertEqual(self.house.land().split(" ")[0], said)
        self.same(self.house.work - before, wanted)

    def test_the_tests_of_the_first_tree_are_no_work(self):
        self.same(self.house.work, 0)
        # They are not in the store either: out and fine, at north and at south.
        self.adds(4, "landed")
        self.adds(0, "landed")

    def test_what_is_fresh(self):
        self.adds(4, "landed", app_main="run 1")
        self.adds(0, "landed", app_other="y", doc="x")
        # Out is fresh at both places, fine as its text is another one.
        self.adds(4, "landed", app_main="run 2")
        # Fine is not fresh at south: a trace of it fits, only out has another one.
        self.adds(2, "landed", set_all=ended("color = red", "when land is fr", "color = green", "end"))
        self.adds(1, "landed", set_all=ended("color = red", "when land is fr", "color = gre", "color += en", "end"),
                  build_all=ended("target out = cat file app/main set color", "test fine = has dep out lit ru"),
                  app_main="run 2", fleet_places="place north 1\n")
        # Older traces are still in the store.
        self.adds(0, "landed", app_main="run 1", build_all=FILES["build/all"])

    def test_from_place_to_place(self):
        # Both places have the same settings, so nothing is fresh at the second one.
        self.adds(2, "landed", set_all="color = red\n")
        self.adds(1, "landed", build_b="test more = lit ok\n")
        self.adds(0, "landed", fleet_places=ended("place a 1 x=y", "place b 1", "place c 9 land=fr"))

    def test_two_names_with_one_expression(self):
        self.adds(4 + 2, "landed", build_b=ended("target one = lit x", "target two = lit x"))
        self.adds(0, "landed", build_b=ended("target one = lit x", "target two = lit x", "target three = lit x"))

    def test_bounced_by_a_test(self):
        # At north all names are looked at; at the places behind it none.
        self.adds(2, "test", app_main="walk")
        self.adds(0, "test", app_main="walk")
        # The traces of a proposal that was bounced are kept: at north only the new test is looked at.
        self.adds(1, "landed", app_main="walk", build_all=ended(
            "target out = cat file app/main set color", "test finer = has dep out lit walk",
        ), fleet_places="place north 1\n")
        self.adds(2, "landed", fleet_places=FILES["fleet/places"])

    def test_up_to_the_first_place_at_which_a_test_does_not_pass(self):
        # Four names at south, which comes last; the other tests of the place are looked at, too.
        hue = ended("test hue = same set color lit red", "test more = lit ok", "target last = set color")
        self.adds(5 + 4, "test", build_b=hue)
        self.adds(0, "test", build_b=hue)
        places = ended("place south 2 land=fr", "place north 1", "place zoo 3 land=zoo")
        self.adds(0, "test", build_b=hue, fleet_places=places, set_b=ended("when land is zoo", "color = zoo", "end"))

    def test_bounced_ahead_of_tests(self):
        self.adds(0, "own", given=(), app_main="run 1")
        self.adds(0, "file", set_all="?")
        self.adds(0, "packs", pack_goals="need a 1 1")
        self.adds(4, "landed", app_main="run 1")
        self.adds(0, "clash", base=0, app_main="run 2")

    def test_no_place(self):
        self.adds(0, "landed", fleet_places=None, app_main="walk")
        self.adds(2, "landed", fleet_places="place north 1\n", app_main="run")

    def test_no_test(self):
        self.adds(2, "landed", build_all="target out = cat file app/main set color\n")
        self.adds(2, "landed", app_main="walk")
        self.adds(0, "landed", build_all=None)
        self.adds(0, "landed", build_all="target out = cat file app/main set color\n")

    def test_packages(self):
        self.adds(4 + 1, "landed", pack_goals="need lib 1 9\n", build_b="target lib = pack lib\n")
        self.house.pack(("lib", 2, (), "two"))
        self.adds(1, "landed", doc="x")
        self.adds(0, "landed", pack_goals="need lib 1 1\n")

    def test_what_is_fresh_is_reached(self):
        self.adds(4, "landed")
        head = self.house.history[-1]
        more = {"app_main": "run 1", "build_b": "target more = file app/other\n"}
        new = edited(head, edit_to(**more))
        reached = sum(len(reach(head, new, facts, PACKS)) for facts in ((), (("land", "fr"),)))
        self.assertEqual(reached, 6)
        # The new target reads the same at both places.
        self.adds(5, "landed", **more)

    def test_the_sum_over_a_store_that_is_handed_on(self):
        store, work = (), 0
        edits = ({"app_main": "run 1"}, {"app_main": "run"}, {"set_b": "color += x\n"}, {"build_b": "target b = dep out\n"})
        for more in edits:
            self.house.propose(len(self.house.history) - 1, edit_to(**more), "joe", ("ann",))
            self.assertTrue(self.house.land().startswith("landed"))
            for facts in ((), (("land", "fr"),)):
                _, fresh, store = rebuilt(self.house.history[-1], facts, PACKS, store)
                work += len(fresh)
            self.same(self.house.work, work)


class ReleasesTest(Asking, unittest.TestCase):

    def test_numbers(self):
        house = House(TREE, PACKS)
        self.same(house.release(), "0")
        self.same(house.release(), "1")
        self.same(house.releases, ((0, PACKS), (0, PACKS)))
        house.propose(0, edit_to(doc="x"), "joe", ())
        self.same(house.release(), "2")
        house.land()
        self.same(house.release(), "3")
        self.same(house.releases, ((0, PACKS),) * 3 + ((1, PACKS),))

    def test_the_registry_with_which_the_tree_landed(self):
        house = House(TREE, PACKS[:1])
        house.pack(PACKS[1])
        self.same(house.release(), "0")
        house.propose(0, edit_to(doc="x"), "joe", ())
        house.pack(("lib", 2, (), "two"))
        two = (PACKS[0], ("lib", 2, (), "two"), PACKS[1])
        house.land()
        house.pack(("lib", 3, (), "three"))
        self.same(house.release(), "1")
        self.same(house.releases, ((0, PACKS[:1]), (1, two)))
        self.same([registry for registry, _ in house.landings], [two])

    def test_forty(self):
        house = House(TREE)
        self.same([house.release() for _ in range(40)], [str(at) for at in range(40)])
        self.same(house.release(), "full")
        house.propose(0, edit_to(doc="x"), "joe", ())
        self.same(house.land(), "landed 1")
        self.same(house.release(), "full")
        self.same(house.releases, ((0, ()),) * 40)
        self.same(roll(house, 39)[-1], "done")
        self.same(house.runs("north"), 39)


class RunningTest(Asking, unittest.TestCase):

    def setUp(self):
        self.goal = tree_with(
            FILES, pack_goals="need lib 1 9\n", build_b=ended("target lib = pack lib", "test last = lit ok", "target no = file no"),
        )
        self.house = House(self.goal, PACKS)
        self.house.release()

    def runs(self, place, number, tree, registry, wave, facts):
        """Just this runs at a place."""
        self.same(self.house.runs(place), number)
        results = built(tree, facts, registry)
        wanted = tuple(pair for pair in results if pair[0] in ("out", "lib", "no", "more"))
        self.same(self.house.running(place), wanted)
        self.same(self.house.wave(place), wave)
        at = self.house.releases[number][0]
        self.same(self.house.history[at], tree)
        self.same(self.house.paper(place), (at, registry, facts, traces(tree, facts, registry)))
        self.same(paper_holds(tree, facts, registry, self.house.paper(place)[3]), True)

    def test_nothing(self):
        for place in ("north", "south", "zoo"):
            for look in (self.house.runs, self.house.running, self.house.wave, self.house.paper):
                self.same(look(place), None)
                self.same(look(place=place), None)

    def test_targets_alone(self):
        roll(self.house, 0)
        self.same(self.house.running("north"), (("out", ("made", "runred")), ("lib", ("made", "one")), ("no", ("bad", "file"))))
        self.same(self.house.running("south"), (("out", ("made", "runblue")), ("lib", ("made", "one")), ("no", ("bad", "file"))))
        self.runs("north", 0, self.goal, PACKS, 1, ())
        self.runs("south", 0, self.goal, PACKS, 2, (("land", "fr"),))
        self.same(self.house.runs("zoo"), None)
        self.assertTrue(plain_only(acts(self.house)))

    def test_what_landed_and_was_added_since_changes_nothing(self):
        roll(self.house, 0)
        before = [(self.house.running(place), self.house.paper(place)) for place in ("north", "south")]
        self.same(self.house.pack(("lib", 2, (), "two")), "ok")
        self.house.propose(0, edit_to(app_main="run 1", fleet_places="place north 3\n"), "joe", ("ann",))
        self.same(self.house.land(), "landed 1")
        self.same(self.house.release(), "1")
        self.same([(self.house.running(place), self.house.paper(place)) for place in ("north", "south")], before)
        self.runs("north", 0, self.goal, PACKS, 1, ())
        roll(self.house, 1)
        new = self.house.history[1]
        self.runs("north", 1, new, self.house.registry, 3, ())
        self.same(self.house.running("north")[1], ("lib", ("made", "two")))
        for look in (self.house.runs, self.house.running, self.house.wave, self.house.paper):
            self.same(look("south"), None)
        roll(self.house, 0)
        self.same([(self.house.running(place), self.house.paper(place)) for place in ("north", "south")], before)

    def test_the_same_facts_run_the_same(self):
        places = ended("place a 1 land=fr", "place b 1 kind=shop land=fr", "place c 2 land=fr")
        self.house.propose(0, edit_to(fleet_places=places), "joe", ())
        self.same(self.house.land(), "landed 1")
        self.house.release()
        roll(self.house, 1)
        self.same(self.house.running("a"), self.house.running("c"))
        # No when names the kind.
        self.same(self.house.running("a"), self.house.running("b"))
        self.same(self.house.paper("b")[2], (("kind", "shop"), ("land", "fr")))

    def test_a_paper_for_others_does_not_hold(self):
        roll(self.house, 0)
        paper = self.house.paper("north")[3]
        self.same(paper_holds(self.goal, (("land", "fr"),), PACKS, paper), False)
        self.same(paper_holds(tree_with(dict(self.goal.files), app_main="run 1"), (), PACKS, paper), False)
        self.same(paper_holds(self.goal, (), PACKS[:1] + (("lib", 2, (), ""),), paper), False)
        self.same(paper_holds(self.goal, (), PACKS, listed(paper)), True)
        self.same(paper_holds(self.goal, (), PACKS, paper[:-1]), False)

    def test_wrong_places(self):
        before = acts(self.house)
        for value in ODD + [(), [], "North", "a b", "", "a23456789012x", TREE]:
            if value not in ("a", "put", "drop", "clash"):
                for look in (self.house.runs, self.house.running, self.house.wave, self.house.paper, self.house.cut):
                    self.bad_value(1, look, value)
        self.same(acts(self.house), before)


class AlikeTest(Asking, unittest.TestCase):

    def test_two_houses_led_alike_share_nothing(self):
        one, two = House(TREE, PACKS), House(Tree(TREE.files), listed(PACKS))
        row = (
            ("pack", (("lib", 2, (), ""),)), ("propose", (0, edit_to(app_main="run 1"), "joe", ("ann",))), ("land", ()),
            ("release", ()), ("begin", (0,)), ("step", ()), ("step", ()), ("cut", ("north",)), ("report", ("north", "well")),
            ("step", ()), ("lost", ()), ("halt", ()), ("step", ()), ("propose", (0, (), "joe", ())),
        )
        untouched = House(TREE, PACKS)
        before = acts(untouched)
        for name, values in row:
            self.same(getattr(one, name)(*values), getattr(two, name)(*listed(values)))
            self.same(acts(one), acts(two))
        self.same(acts(untouched), before)


if __name__ == "__main__":
    unittest.main()
