"""Landing: points 56 to 59, and what points 2, 7 and 16 say of it."""

import itertools
import random
import unittest

from releasehouse.files import check, goals
from releasehouse.landing import land_all, landing, sound
from releasehouse.owners import approved
from releasehouse.packages import refutes
from releasehouse.trees import Tree, edited, merged

from drawn import PACKAGES, REGISTRY, head_of, proposal_of
from helpers import ODD, Asking, edit_to, ended, listed, one_file, plain_only, tree_with
from model import landing_again

FILES = {
    "app/main": "run",
    "app/other": "x",
    "build/all": ended("target out = cat file app/main set color", "test fine = has dep out lit run"),
    "fleet/places": ended("place south 2 land=fr", "place north 1"),
    "own/rules": ended("own app 1 ann bob", "own own/rules 2 ann bob eve"),
    "set/all": ended("color = red", "when land is fr", "color = blue", "end"),
}
TREE = tree_with(FILES)
PACKS = (("lib", 1, (), "one"), ("tool", 1, (("lib", 2, 9),), "two"))


def fixed(count):
    """Return a tree of so many files that tell nothing."""
    return Tree(tuple((f"f{at:02}", "") for at in range(count)))


class LandingTest(Asking, unittest.TestCase):

    def lands(self, wanted, more, author="joe", given=("ann",), head=TREE, registry=(), base=None):
        """What becomes of an edit that puts these files."""
        proposal = (head if base is None else base, edit_to(**more), author, given)
        answer = landing(head, registry, proposal)
        self.same(answer, wanted)
        self.same(landing(head, listed(registry), [proposal[0], listed(proposal[1]), author, list(given)]), wanted)
        self.same(landing_again(head, registry, proposal), wanted)
        self.assertTrue(plain_only(answer))

    def test_landed(self):
        self.lands(("landed", tree_with(FILES, app_main="run fast")), {"app_main": "run fast"})
        self.lands(("landed", TREE), {}, given=())
        self.lands(("landed", tree_with(FILES, doc="x")), {"doc": "x"}, given=())
        self.lands(("landed", tree_with(FILES, app_other=None)), {"app_other": None})
        self.lands(("landed", Tree()), {}, head=Tree(), given=())
        self.same(
            landing(head=TREE, registry=[], proposal=[TREE, [], "joe", []]), ("landed", TREE),
        )

    def test_clash(self):
        head = tree_with(FILES, app_main="run 1", app_other=None)
        self.lands(("clash", ("app/main", "app/other")), {"app_main": "run 2", "app_other": "y"}, head=head, base=TREE)
        self.lands(("clash", ("app/main",)), {"app_main": None}, head=head, base=TREE)
        self.lands(("clash", ("app/new",)), {"app_new": "x"}, head=tree_with(FILES, app_new=""), base=TREE)
        # What both did alike is no clash, nor is what only one of them did.
        self.lands(("landed", head), {"app_main": "run 1", "app_other": None}, head=head, base=TREE)
        self.lands(("landed", head), {"app_main": "run"}, head=head, base=TREE)
        new = tree_with(FILES, app_main="run 1", app_other=None, app_new="x")
        self.lands(("landed", new), {"app_new": "x"}, head=head, base=TREE)

    def test_too_many_files(self):
        base = fixed(58)
        head = edited(base, edit_to(one="x"))
        self.lands(("landed", edited(head, edit_to(two="x"))), {"two": "x"}, head=head, base=base)
        self.lands(("clash", ()), {"two": "x", "three": "x"}, head=head, base=base)
        head = edited(head, edit_to(two="x"))
        self.lands(("clash", ()), {"three": "x"}, head=head, base=base)
        self.lands(("clash", ("one",)), {"one": "y", "three": "x"}, head=head, base=base)
        dropped = edited(head, (("drop", "f00"), ("put", "three", "x")))
        self.lands(("landed", dropped), {"f00": None, "three": "x"}, head=head, base=base)

    def test_file(self):
        self.lands(("file", ("set/all", 2)), {"set_all": "a = b\n?"})
        self.lands(("file", ("build/all", 1)), {"set_all": "?", "build_all": "?"})
        self.lands(("file", ("own/rules", 1)), {"own_rules": "own"})
        self.lands(("file", ("fleet/places", 3)), {"fleet_places": "\n\nplace"})
        self.lands(("file", ("pack/goals", 1)), {"pack_goals": "need"})
        # A target that a rules file of the head names is dropped.
        base = tree_with(FILES, build_all="", build_b="", own_rules=None)
        head = edited(base, edit_to(build_all="target a = line\n", build_b="target b = dep a\n"))
        self.lands(("file", ("build/b", 1)), {"build_all": None}, base=head, head=head)
        # Each side is right alone, but both together are not.
        head = tree_with(FILES, build_b="target more = line", own_rules=None)
        base = tree_with(FILES, own_rules=None)
        self.lands(("file", ("build/c", 1)), {"build_c": "target more = lit x"}, head=head, base=base)

    def test_own(self):
        self.lands(("own", (0, 1)), {"app_main": "run 1"}, given=())
        self.lands(("own", (0, 1)), {"app_main": "run 1"}, given=("eve", "joe"))
        self.lands(("own", (0, 1)), {"app_main": "run 1"}, author="ann")
        new = tree_with(FILES, app_main="run 1")
        self.lands(("landed", new), {"app_main": "run 1"}, author="ann", given=("ann", "bob"))
        self.lands(("own", (0, 2)), {"own_rules": None})
        self.lands(("own", (0, 2)), {"own_rules": ""})
        self.lands(("landed", tree_with(FILES, own_rules=None)), {"own_rules": None}, given=("ann", "eve"))
        rules = FILES["own/rules"] + "\nown doc 1 zoe\n"
        self.lands(("own", (1, 4)), {"own_rules": rules, "doc": "x"}, given=("ann", "bob"))
        new = tree_with(FILES, own_rules=rules, doc="x")
        self.lands(("landed", new), {"own_rules": rules, "doc": "x"}, given=("ann", "bob", "zoe"))

    def test_own_asks_of_the_change_from_the_head(self):
        # The head has the same change already, so nothing is asked.
        head = tree_with(FILES, app_main="run 1")
        self.lands(("landed", head), {"app_main": "run 1"}, given=(), head=head, base=TREE)
        # A path that the base differs in from the head, but the edit does not change.
        self.lands(("landed", tree_with(FILES, app_main="run 1", doc="x")), {"doc": "x"}, given=(), head=head, base=TREE)
        # The lines of the head, not those of the base.
        base = tree_with(FILES, own_rules="own app 3 a b c\n")
        self.lands(("landed", tree_with(FILES, app_other="y")), {"app_other": "y"}, base=base)
        self.lands(("own", (0, 1)), {"app_other": "y"}, base=tree_with(FILES, own_rules=None), given=())

    def test_a_head_with_wrong_approvals(self):
        head = tree_with(FILES, own_rules="own app 3 ann bob eve\n?")
        self.lands(("file", ("own/rules", 2)), {"app_main": "run 1"}, head=head)
        right = "own app 1 ann\n"
        new = tree_with(FILES, app_main="run 1", own_rules=right)
        self.lands(("landed", new), {"app_main": "run 1", "own_rules": right}, head=head)
        self.lands(("own", (1, 1)), {"app_main": "run 1", "own_rules": right}, head=head, given=("bob",))
        new = tree_with(FILES, app_main="run 1", own_rules=None)
        self.lands(("landed", new), {"app_main": "run 1", "own_rules": None}, head=head, given=())
        # A head that is wrong in another file.
        head = tree_with(FILES, set_all="?")
        self.lands(("own", (0, 1)), {"app_main": "run 1", "set_all": ""}, head=head, given=())
        new = tree_with(FILES, set_all="")
        self.lands(("landed", new), {"set_all": ""}, head=head, given=())
        self.lands(("file", ("set/all", 1)), {}, head=head, given=())

    def test_packs(self):
        for goal in ("need lib 2 2\n", "need none 1 9\n", "need lib 1 1\nneed tool 1 9\n"):
            tree = tree_with(FILES, pack_goals=goal)
            word, paper = landing(TREE, PACKS, (TREE, edit_to(pack_goals=goal), "joe", ()))
            self.assertEqual(word, "packs")
            self.assertTrue(refutes(PACKS, goals(tree), paper))
            self.assertTrue(plain_only(paper))
            self.lands(("packs", paper), {"pack_goals": goal}, registry=PACKS)
        new = tree_with(FILES, pack_goals="need lib 1 9\n")
        self.lands(("landed", new), {"pack_goals": "need lib 1 9\n"}, registry=PACKS)
        # Goals that the head has already, with another registry.
        word, paper = landing(new, (), (new, edit_to(doc="x"), "joe", ()))
        self.same((word, paper), ("packs", ("pick", "lib", ())))

    def test_test(self):
        self.lands(("test", ("north", "fine")), {"app_main": "walk"})
        self.lands(("test", ("south", "hue")), {"build_b": "test hue = has set color lit red\n"})
        both = ended("test z = same set color lit blue", "test a = lit no", "test b = file none")
        self.lands(("test", ("north", "z")), {"build_b": both})
        self.lands(("test", ("south", "a")), {"build_b": both, "fleet_places": "place south 1 land=fr\n"})
        # By waves ahead of names, not by lines.
        places = ended("place a 3", "place b 1", "place ab 1 land=fr", "place aa 2")
        self.lands(("test", ("ab", "fine")), {"app_main": "walk", "fleet_places": places})
        self.lands(("test", ("aa", "two")), {
            "fleet_places": ended("place a 3 t=two", "place b 1", "place aa 2 t=two"),
            "set_b": ended("when t is two", "hue = bad", "end"), "build_b": "test two = not set hue\n",
        })
        # A target that is bad does not keep a tree from landing.
        self.lands(("landed", tree_with(FILES, build_b="target no = file none")), {"build_b": "target no = file none"})

    def test_no_place_no_test(self):
        new = tree_with(FILES, app_main="walk", fleet_places=None)
        self.lands(("landed", new), {"app_main": "walk", "fleet_places": None})
        new = tree_with(FILES, app_main="walk", fleet_places="\n")
        self.lands(("landed", new), {"app_main": "walk", "fleet_places": "\n"})

    def test_packages_are_those_of_the_registry(self):
        more = {"build_b": "test lib = same pack lib lit two\n", "pack_goals": "need lib 1 9\n"}
        two = (("lib", 1, (), "one"), ("lib", 2, (), "two"))
        self.lands(("test", ("north", "lib")), more, registry=two[:1])
        self.lands(("landed", tree_with(FILES, **more)), more, registry=two)


class NeighboursTest(Asking, unittest.TestCase):
    """Proposals for which two words are so, and the earlier one is the answer."""

    def first(self, word, more, base=TREE, head=TREE, given=(), registry=()):
        proposal = (base, edit_to(**more), "joe", given)
        answer = landing(head, registry, proposal)
        self.assertEqual(answer[0], word)
        self.same(answer, landing_again(head, registry, proposal))
        return answer

    def test_clash_and_file(self):
        head = tree_with(FILES, app_main="run 1")
        self.same(self.first("clash", {"app_main": "run 2", "set_all": "?"}, head=head), ("clash", ("app/main",)))
        self.first("file", {"set_all": "?"}, head=head)
        self.first("clash", {"own_rules": "?"}, head=tree_with(FILES, own_rules="own"))

    def test_file_and_own(self):
        self.same(self.first("file", {"app_main": "run 1", "set_all": "?"}), ("file", ("set/all", 1)))
        self.first("own", {"app_main": "run 1"})

    def test_own_and_packs(self):
        self.same(self.first("own", {"app_main": "run 1", "pack_goals": "need a 1 1"}), ("own", (0, 1)))
        self.first("packs", {"app_main": "run 1", "pack_goals": "need a 1 1"}, given=("ann",))

    def test_packs_and_test(self):
        self.first("packs", {"app_main": "walk", "pack_goals": "need a 1 1"}, given=("ann",))
        self.first("test", {"app_main": "walk", "pack_goals": ""}, given=("ann",))

    def test_clash_and_all_others(self):
        more = {"app_main": "walk", "set_all": "?", "pack_goals": "need a 1 1", "app_other": "z"}
        self.first("clash", more, head=tree_with(FILES, app_other="y"))


class WrongArgumentsTest(Asking, unittest.TestCase):

    right = (TREE, edit_to(app_main="run 1"), "joe", ("ann",))

    def test_head(self):
        for value in ODD + [(), [], TREE.files, self.right]:
            self.bad_value(1, landing, value, (), self.right)
            self.bad_value(1, landing, value, None, None)
            self.bad_value(1, land_all, value, (), ())
            self.bad_value(1, land_all, value, None, None)

    def test_registry(self):
        for value in ODD + [TREE, PACKS[:1] * 2, PACKS[::-1], (("lib", 1, ()),), (("lib", 0, (), ""),)]:
            self.bad_value(2, landing, TREE, value, self.right)
            self.bad_value(2, landing, TREE, value, None)
            self.bad_value(2, land_all, TREE, value, ())
            self.bad_value(2, land_all, TREE, value, None)
        many = tuple((f"a{at:02}", 1, (), "") for at in range(31))
        self.bad_value(2, landing, TREE, many, self.right)
        self.assertEqual(landing(TREE, many[:30], self.right)[0], "landed")

    def wrong_proposals(self):
        tree, edit, author, given = self.right
        yield from ODD + [(), [], TREE, self.right[:3], self.right + ((),), (self.right,)]
        for value in ODD + [(), [], tree.files]:
            yield (value, edit, author, given)
        for value in ODD + [tree, (("put", "a", "x"), ("put", "a", "y")), (("drop", "b"), ("drop", "a"))]:
            yield (tree, value, author, given)
        for value in ODD + ["Ann", "ann ", "1a", "a23456789012x", tree]:
            if value not in ("a", "put", "drop", "clash"):
                yield (tree, edit, value, given)
        for value in ODD + [tree, ("bob", "ann"), ("ann", "ann"), tuple("abcdefghi"), ("a b",), "ann"]:
            if value not in (("a", "b"), ["a"], ("drop", "a")):
                yield (tree, edit, author, value)

    def test_proposal(self):
        for value in self.wrong_proposals():
            self.bad_value(3, landing, TREE, (), value)
            self.bad_value(3, land_all, TREE, (), [self.right, value])
            if len(repr(value)) < 60000:
                self.bad_value(2, sound, (TREE, TREE), (((), value),))

    def test_edits_that_make_too_many_files(self):
        base = fixed(60)
        proposal = (base, edit_to(one="x"), "joe", ())
        self.bad_value(3, landing, Tree(), (), proposal)
        self.bad_value(3, land_all, Tree(), (), (proposal,))
        # Of the tree that it was made on, not of the head.
        self.same(landing(Tree(), (), (base, edit_to(f00=None, one="x"), "joe", ()))[0], "landed")
        self.same(landing(base, (), (fixed(59), edit_to(one="x"), "joe", ())), ("clash", ()))

    def test_eight_are_given(self):
        rules = "own all/ 1 h\n"
        tree = one_file("own/rules", rules)
        self.assertEqual(landing(tree, (), (tree, edit_to(a=""), "i", tuple("abcdefgh")))[0], "landed")
        self.assertEqual(landing(tree, (), (tree, edit_to(a=""), "i", tuple("abcdefg"))), ("own", (0, 1)))
        self.bad_value(3, landing, tree, (), (tree, edit_to(a=""), "i", tuple("abcdefghi")))

    def test_lists_that_are_changed_later(self):
        edit = [["put", "app/main", "run 1"]]
        given = ["ann"]
        proposals = [[TREE, edit, "joe", given]]
        answers, trees = land_all(TREE, [], proposals)
        edit[0][2] = "run 2"
        given.clear()
        proposals.clear()
        self.same(answers, (("landed", tree_with(FILES, app_main="run 1")),))
        self.same(trees, (TREE, tree_with(FILES, app_main="run 1")))


class LandAllTest(Asking, unittest.TestCase):

    def test_some_land(self):
        proposals = (
            (TREE, edit_to(app_main="run 1"), "joe", ("ann",)),
            (TREE, edit_to(app_main="run 2"), "joe", ("ann",)),
            (TREE, edit_to(app_other="y"), "joe", ()),
            (TREE, edit_to(app_other="y"), "joe", ("bob",)),
            (TREE, edit_to(set_all="?"), "joe", ()),
            (TREE, edit_to(doc="x"), "joe", ()),
        )
        first = tree_with(FILES, app_main="run 1")
        second = tree_with(FILES, app_main="run 1", app_other="y")
        third = tree_with(FILES, app_main="run 1", app_other="y", doc="x")
        answers = (
            ("landed", first), ("clash", ("app/main",)), ("own", (0, 1)), ("landed", second), ("file", ("set/all", 1)),
            ("landed", third),
        )
        self.same(land_all(TREE, (), proposals), (answers, (TREE, first, second, third)))
        self.same(
            land_all(head=TREE, registry=[], proposals=[[part for part in row] for row in proposals]),
            (answers, (TREE, first, second, third)),
        )
        self.assertTrue(plain_only(land_all(TREE, (), list(proposals))))

    def test_none(self):
        self.same(land_all(TREE, (), ()), ((), (TREE,)))
        self.same(land_all(one_file("set/a", "?"), (), []), ((), (one_file("set/a", "?"),)))

    def test_thirty_nine(self):
        tree = Tree()
        proposals = [(tree, edit_to(**{f"f{at}": "x"}), "joe", ()) for at in range(40)]
        answers, trees = land_all(tree, (), proposals[:39])
        self.assertEqual(len(trees), 40)
        self.assertEqual([word for word, _ in answers], ["landed"] * 39)
        self.assertEqual([len(made.files) for made in trees], list(range(40)))
        self.bad_value(3, land_all, tree, (), proposals)
        self.bad_value(3, land_all, tree, (), [(tree, (), "joe", ())] * 40)
        for value in ODD:
            if value not in ((), []):
                self.bad_value(3, land_all, tree, (), value)
        self.bad_value(3, land_all, tree, (), tree)


class SoundTest(Asking, unittest.TestCase):

    def setUp(self):
        goal = "need lib 1 9\n"
        tests = "test lib = same pack lib lit one\n"
        edits = (
            edit_to(app_main="run 1"), edit_to(pack_goals=goal, build_b=tests), edit_to(app_other="y"), edit_to(doc=""),
        )
        two = PACKS[:1] + (("lib", 2, (), "two"),) + PACKS[1:]
        trees = [TREE]
        landings = []
        for registry, edit in zip(((), PACKS, PACKS, PACKS), edits):
            landings.append((registry, (TREE, edit, "joe", ("ann",))))
            trees.append(landing(trees[-1], registry, landings[-1][1])[1])
        self.trees, self.landings, self.two = tuple(trees), tuple(landings), two

    def test_sound(self):
        self.same(sound(self.trees, self.landings), True)
        self.same(sound(history=list(self.trees), landings=[[listed(a), list(b)] for a, b in self.landings]), True)
        for last in range(1, 6):
            self.same(sound(self.trees[:last], self.landings[:last - 1]), True)
            self.same(sound(self.trees[last - 1:last], ()), True)
        wrong = one_file("own/rules", "?")
        self.same(sound((wrong,), []), True)

    def test_one_tree_changed(self):
        for at in range(5):
            trees = list(self.trees)
            trees[at] = edited(trees[at], edit_to(zoo="x"))
            self.same(sound(trees, self.landings), False)
        trees = list(self.trees)
        trees[0] = tree_with(FILES, app_other=None)
        self.same(sound(trees, self.landings), False)

    def test_one_registry_changed(self):
        for at, registry in ((1, ()), (2, ()), (3, ()), (1, self.two), (2, self.two), (3, self.two)):
            landings = list(self.landings)
            landings[at] = (registry, landings[at][1])
            self.same(sound(self.trees, landings), False)
        landings = ((self.two, self.landings[0][1]),) + self.landings[1:]
        self.same(sound(self.trees, landings), True)

    def test_one_proposal_changed(self):
        for at in range(4):
            registry, (tree, edit, author, given) = self.landings[at]
            for proposal, answer in (
                ((tree, edit_to(other=""), author, given), False),
                ((tree, edit, "ann", given), at not in (0, 2)),
                ((tree, edit, author, ()), at not in (0, 2)),
                ((tree, edit, author, ("ann", "bob")), True),
                ((self.trees[at], edit, author, given), True),
                ((Tree(), edit, author, given), at not in (0, 2)),
            ):
                landings = list(self.landings)
                landings[at] = (registry, proposal)
                self.same(sound(self.trees, landings), answer)

    def test_what_does_not_land_is_not_sound_with_the_tree_ahead(self):
        proposal = (TREE, edit_to(app_main="walk"), "joe", ("ann",))
        self.same(sound((TREE, TREE), (((), proposal),)), False)
        self.same(sound((TREE, tree_with(FILES, app_main="walk")), (((), proposal),)), False)
        self.same(sound((TREE, TREE), (((), (TREE, (), "joe", ())),)), True)

    def test_wrong_history(self):
        for value in ODD + [(), [], TREE, [TREE, TREE.files], (TREE, None), [[TREE]]]:
            self.bad_value(1, sound, value, ())
            self.bad_value(1, sound, value, None)

    def test_too_few_and_too_many(self):
        pair = ((), (TREE, (), "joe", ()))
        for count in range(1, 5):
            for many in range(0, 6):
                if many == count - 1:
                    self.same(sound((TREE,) * count, (pair,) * many), True)
                else:
                    self.bad_value(2, sound, (TREE,) * count, [pair] * many)
        self.same(sound([TREE] * 40, [pair] * 39), True)
        self.bad_value(2, sound, [TREE] * 40, [pair] * 40)
        self.bad_value(1, sound, [TREE] * 41, [pair] * 40)

    def test_wrong_landings(self):
        pair = ((), (TREE, (), "joe", ()))
        for value in ODD + [TREE]:
            self.bad_value(2, sound, (TREE, TREE), value)
            self.bad_value(2, sound, (TREE, TREE, TREE), (pair, value))
            self.bad_value(2, sound, (TREE, TREE, TREE), (pair, ((), value)))
            if value not in ((), []):
                self.bad_value(2, sound, (TREE, TREE, TREE), (pair, (value, pair[1])))
        self.bad_value(2, sound, (TREE, TREE), (pair + ((),),))
        self.bad_value(2, sound, (TREE, TREE), ((pair[1], ()),))
        # A wrong landing counts also behind one that is not sound.
        self.bad_value(2, sound, (TREE, Tree(), TREE), (pair, (PACKS[::-1], pair[1])))


class DrawnTest(Asking, unittest.TestCase):

    def test_against_the_model(self):
        chance = random.Random(56)
        words = {}
        for _ in range(400):
            head, base = head_of(chance)
            registry = tuple(sorted(chance.sample(PACKAGES, chance.randint(0, len(PACKAGES)))))
            proposal = proposal_of(chance, base)
            answer = landing(head, registry, proposal)
            self.same(answer, landing_again(head, registry, proposal))
            words[answer[0]] = words.get(answer[0], 0) + 1
            if answer[0] == "landed":
                self.assertIsNone(check(answer[1]))
                self.same(merged(base, head, edited(base, proposal[1])), ("tree", answer[1]))
                self.same(sound((head, answer[1]), ((registry, proposal),)), True)
        self.assertEqual(sorted(words), ["clash", "file", "landed", "own", "packs", "test"])
        self.assertGreater(min(words.values()), 5)

    def test_more_approvals_never_spoil_it(self):
        chance = random.Random(16)
        for _ in range(300):
            head, base = head_of(chance)
            tree, edit, author, given = proposal_of(chance, base)
            more = tuple(sorted(set(given) | set(chance.sample(("ann", "bob", "eve", "joe", "zoe"), 2))))
            fewer = landing(head, REGISTRY, (tree, edit, author, given))
            answer = landing(head, REGISTRY, (tree, edit, author, more))
            if fewer[0] != "own":
                self.same(answer, fewer)
            elif answer[0] == "landed":
                self.assertEqual(approved(head, answer[1], author, more)[0], "yes")

    def test_orders(self):
        chance = random.Random(7)
        alike = 0
        for _ in range(120):
            head, base = head_of(chance)
            proposals = [proposal_of(chance, base) for _ in range(chance.randint(2, 3))]
            lasts = []
            for order in itertools.permutations(proposals):
                answers, trees = land_all(head, REGISTRY, order)
                self.same(len(trees) - 1, len([word for word, _ in answers if word == "landed"]))
                if len(trees) == len(proposals) + 1:
                    lasts.append(trees[-1])
                    self.paths_by_what_was_put(head, base, proposals, trees[-1])
            for last in lasts:
                self.assertEqual(last, lasts[0])
            alike += len(lasts) > 1
        self.assertGreater(alike, 10)

    def paths_by_what_was_put(self, head, base, proposals, last):
        """Point 59: each path has what one of the edits made of it, or what the head had."""
        was, ours, now = dict(base.files), dict(head.files), dict(last.files)
        made = [dict(edited(base, edit).files) for _, edit, _, _ in proposals]
        for path in {**was, **ours, **now, **{path: "" for files in made for path in files}}:
            put = [files.get(path) for files in made if files.get(path) != was.get(path)]
            if put and ours.get(path) == was.get(path):
                self.assertEqual([now.get(path)] * len(put), put)
            else:
                self.assertEqual(now.get(path), ours.get(path))


if __name__ == "__main__":
    unittest.main()
