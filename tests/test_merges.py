"""Merges: points 14 and 21."""

import random
import unittest
from itertools import product

from releasehouse.trees import Tree, between, edited, merged, touched

from helpers import ODD, Asking, plain_only


def numbered(first, count):
    return tuple((f"f{number:03}", "x") for number in range(first, first + count))


def at_path(base, ours, theirs):
    """Return what stands at a path in the end, None for nothing, or "clash"."""
    if ours == theirs:
        return ours
    if ours == base:
        return theirs
    if theirs == base:
        return ours
    return "clash"


class MergedTest(Asking, unittest.TestCase):

    def check_merge(self, answer, word, more):
        self.assertIs(type(answer), tuple)
        self.assertEqual(answer, (word, more))
        if word == "clash":
            self.assertTrue(plain_only(answer))

    def test_changes_of_both(self):
        base = Tree((("a", "1"), ("b", "2"), ("c", "3"), ("d", "4")))
        ours = edited(base, (("put", "a", "x"), ("drop", "b"), ("put", "e", "5")))
        theirs = edited(base, (("put", "c", "y"), ("drop", "d"), ("put", "f", "6")))
        wanted = Tree((("a", "x"), ("c", "y"), ("e", "5"), ("f", "6")))
        self.check_merge(merged(base, ours, theirs), "tree", wanted)
        self.check_merge(merged(base, theirs, ours), "tree", wanted)
        self.check_merge(merged(theirs=theirs, ours=ours, base=base), "tree", wanted)

    def test_each_path_by_itself(self):
        for base, ours, theirs in product((None, "", "x", "y"), repeat=3):
            trees = [Tree(()) if kept is None else Tree((("p", kept),)) for kept in (base, ours, theirs)]
            wanted = at_path(base, ours, theirs)
            answer = merged(*trees)
            if wanted == "clash":
                self.check_merge(answer, "clash", ("p",))
            else:
                self.check_merge(answer, "tree", Tree(()) if wanted is None else Tree((("p", wanted),)))

    def test_clashes_to_nothing(self):
        base, changed = Tree((("a", "1"),)), Tree((("a", "2"),))
        self.check_merge(merged(base, Tree(), changed), "clash", ("a",))
        self.check_merge(merged(base, changed, Tree()), "clash", ("a",))
        # Both put something where nothing was.
        self.check_merge(merged(Tree(), base, changed), "clash", ("a",))
        self.check_merge(merged(base, Tree(), Tree()), "tree", Tree())
        self.check_merge(merged(Tree(), base, base), "tree", base)

    def test_all_clashes_ascending_and_nothing_else(self):
        base = Tree((("a", "1"), ("b", "1"), ("c", "1"), ("d", "1")))
        ours = Tree((("a", "2"), ("b", "2"), ("c", "1"), ("d", "2"), ("e", "2")))
        theirs = Tree((("a", "3"), ("b", "2"), ("c", "3"), ("e", "3")))
        self.check_merge(merged(base, ours, theirs), "clash", ("a", "d", "e"))
        self.check_merge(merged(base, theirs, ours), "clash", ("a", "d", "e"))

    def test_theirs_is_the_base(self):
        ours = Tree((("a", "2"), ("c", "")))
        for base in (Tree(), Tree((("a", "1"), ("b", ""))), ours, Tree(numbered(0, 60))):
            self.check_merge(merged(base, ours, base), "tree", ours)
            self.check_merge(merged(base, base, ours), "tree", ours)

    def test_too_many_files_without_a_clash(self):
        base = Tree(numbered(0, 20))
        ours = Tree(numbered(0, 40))
        for count, word in ((20, "tree"), (21, "clash")):
            theirs = Tree(numbered(0, 20) + numbered(100, count))
            answer = merged(base, ours, theirs)
            self.assertEqual(answer, merged(base, theirs, ours))
            if word == "tree":
                self.check_merge(answer, "tree", Tree(numbered(0, 40) + numbered(100, 20)))
            else:
                self.check_merge(answer, "clash", ())

    def test_too_many_files_and_a_clash(self):
        base = Tree((("a", "1"),))
        ours = Tree((("a", "2"),) + numbered(0, 40))
        theirs = Tree((("a", "3"),) + numbered(100, 40))
        self.check_merge(merged(base, ours, theirs), "clash", ("a",))

    def test_wrong_trees(self):
        for value in ODD + [(), []]:
            self.bad_value(1, merged, value, Tree(), Tree())
            self.bad_value(2, merged, Tree(), value, Tree())
            self.bad_value(3, merged, Tree(), Tree(), value)
            self.bad_value(1, merged, value, value, Tree())
            self.bad_value(2, merged, Tree(), value, value)
            self.bad_value(1, merged, value, Tree(), value)

    def test_both_ways_by_chance(self):
        chance = random.Random(21)
        for _ in range(500):
            base, ours, theirs = [
                Tree(tuple((path, chance.choice("xyz")) for path in "abcd" if chance.random() < 0.7))
                for _ in range(3)
            ]
            answer = merged(base, ours, theirs)
            self.assertEqual(answer, merged(base, theirs, ours))
            both = set(touched(base, ours)) & set(touched(base, theirs))
            clashes = [path for path in both if dict(ours.files).get(path) != dict(theirs.files).get(path)]
            if clashes:
                self.assertEqual(answer, ("clash", tuple(sorted(clashes))))
            else:
                twice = edited(edited(base, between(base, ours)), between(base, theirs))
                self.assertEqual(answer, ("tree", twice))


if __name__ == "__main__":
    unittest.main()
