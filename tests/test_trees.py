"""Trees and edits: point 20."""

import random
import unittest

from releasehouse.trees import Tree, between, edited, touched

from helpers import ODD, Asking, listed, plain_only


def many_files(count):
    return tuple((f"f{number:02}", "x") for number in range(count))


class TreeTest(Asking, unittest.TestCase):

    def test_files(self):
        files = (("app/main", "run"), ("build/all", ""), ("set/all", "color = red\n"))
        self.same(Tree(files).files, files)
        self.same(Tree(files=files).files, files)
        self.same(Tree().files, ())
        self.same(Tree([]).files, ())

    def test_lists_pass_and_are_not_kept(self):
        files = [["a", "x"], ["b", "y"]]
        tree = Tree(files)
        self.same(tree.files, (("a", "x"), ("b", "y")))
        files[0][1] = "z"
        files.append(["c", ""])
        self.same(tree.files, (("a", "x"), ("b", "y")))

    def test_equality(self):
        tree = Tree((("a", "x"),))
        self.assertEqual(tree, Tree([["a", "x"]]))
        self.assertTrue(tree == Tree([["a", "x"]]))
        self.assertFalse(tree != Tree([["a", "x"]]))
        for other in (Tree(), Tree((("a", "y"),)), Tree((("b", "x"),)), (("a", "x"),), None, True, "a"):
            self.assertFalse(tree == other)
            self.assertTrue(tree != other)
        self.assertFalse(Tree() == ())
        self.assertFalse(() == Tree())

    def test_odd_values_are_no_files(self):
        for value in ODD:
            self.bad_value(1, Tree, value)
        self.bad_value(1, Tree, Tree())
        self.bad_value(1, Tree, files="ab")

    def test_most_files(self):
        self.assertEqual(len(Tree(many_files(60)).files), 60)
        self.bad_value(1, Tree, many_files(61))

    def test_order_of_paths(self):
        self.bad_value(1, Tree, (("b", ""), ("a", "")))
        self.bad_value(1, Tree, (("a", ""), ("a", "")))
        self.bad_value(1, Tree, (("a", ""), ("a", "x")))
        self.bad_value(1, Tree, (("a/b", ""), ("a", "")))
        # The slash is less than digits, and these are less than letters.
        files = (("a", ""), ("a/b", ""), ("a0", ""), ("a0/b", ""), ("aa", ""))
        self.same(Tree(files).files, files)
        self.bad_value(1, Tree, (("a0", ""), ("a/b", "")))

    def test_paths(self):
        long = "a23456789012"
        for path in ("a", "z9", long, "/".join([long] * 4), "a/b/c/d", "a0/b1"):
            self.same(Tree(((path, ""),)).files, ((path, ""),))
        wrong = (
            "", "/", "a/", "/a", "a//b", "a/b/c/d/e", long + "3", "a/" + long + "3", "A", "aB",
            "1a", "0", "a/1b", "a b", " a", "a ", "a_b", "a-b", "a.b", "a\n", "\na", "a|b", "all/",
        )
        for path in wrong:
            self.bad_value(1, Tree, ((path, ""),))
        for path in (None, True, 1, ("a",), ["a"], ()):
            self.bad_value(1, Tree, ((path, ""),))

    def test_contents(self):
        shown = "".join(chr(number) for number in range(32, 127) if number != 37)
        for content in ("", "\n", "\n\n", " ", shown, "x" * 1000, "\n" * 1000, "a\nb", "a\nb\n"):
            self.same(Tree((("a", content),)).files, (("a", content),))
        for content in ("x" * 1001, "\n" * 1001, chr(37), "a" + chr(37), "\t", "\r", "\x00", "\x7f", "\u00e9"):
            self.bad_value(1, Tree, (("a", content),))
        for content in (None, True, 1, (), ["x"], ("x",)):
            self.bad_value(1, Tree, (("a", content),))

    def test_pairs_have_two_parts(self):
        for pair in (("a",), ("a", "", ""), (), "ab", None):
            self.bad_value(1, Tree, (pair,))
            self.bad_value(1, Tree, (("a", ""), pair))


class EditedTest(Asking, unittest.TestCase):

    def test_put_and_drop(self):
        tree = Tree((("a", "1"), ("b", "2"), ("c", "3")))
        edit = (("put", "a", "x"), ("drop", "b"), ("drop", "bb"), ("put", "d", ""))
        wanted = (("a", "x"), ("c", "3"), ("d", ""))
        self.same(edited(tree, edit).files, wanted)
        self.same(edited(tree, listed(edit)).files, wanted)
        self.same(edited(edit=edit, tree=tree).files, wanted)
        self.same(tree.files, (("a", "1"), ("b", "2"), ("c", "3")))

    def test_no_change(self):
        tree = Tree((("a", "1"),))
        for edit in ((), [], (("put", "a", "1"),), (("drop", "b"),)):
            self.assertEqual(edited(tree, edit), tree)
        self.assertEqual(edited(Tree(), ()), Tree())

    def test_a_dropped_path_does_not_drop_what_lies_below(self):
        tree = Tree((("a", "1"), ("a/b", "2")))
        self.same(edited(tree, (("drop", "a"),)).files, (("a/b", "2"),))

    def test_wrong_tree(self):
        for value in ODD + [(), []]:
            self.bad_value(1, edited, value, ())
            self.bad_value(1, edited, value, value)

    def test_wrong_edits(self):
        tree = Tree((("a", "1"),))
        for value in ODD:
            self.bad_value(2, edited, tree, value)
        self.bad_value(2, edited, tree, tree)
        wrong = (
            ("put", "a"), ("put", "a", "", ""), ("put",), ("drop",), ("drop", "a", ""), ("Put", "a", ""),
            ("", "a", ""), (None, "a"), (True, "a", ""), (["put"], "a", ""), ("put", "A", ""),
            ("put", "a", None), ("put", "a", "x" * 1001), ("put", "a", 1), ("drop", "a/"), ("drop", None),
            ("drop", ("a",)), ("put", "a", ["x"]), (), "drop", ("a", ""),
        )
        for change in wrong:
            self.bad_value(2, edited, tree, (change,))
            self.bad_value(2, edited, tree, (("drop", "a"), change))

    def test_order_of_an_edit(self):
        tree = Tree((("a", "1"),))
        self.bad_value(2, edited, tree, (("put", "b", ""), ("put", "a", "")))
        self.bad_value(2, edited, tree, (("put", "a", ""), ("put", "a", "")))
        self.bad_value(2, edited, tree, (("drop", "a"), ("put", "a", "")))
        self.bad_value(2, edited, tree, (("put", "a", ""), ("drop", "a")))
        self.bad_value(2, edited, tree, (("drop", "b"), ("drop", "a")))

    def test_most_files(self):
        tree = Tree(many_files(60))
        self.bad_value(2, edited, tree, (("put", "a", ""),))
        self.assertEqual(len(edited(tree, (("put", "f00", "y"),)).files), 60)
        self.assertEqual(len(edited(tree, (("put", "a", ""), ("drop", "f30"))).files), 60)
        self.assertEqual(len(edited(Tree(many_files(59)), (("put", "a", ""),)).files), 60)
        puts = tuple(("put", path, content) for path, content in many_files(61))
        self.bad_value(2, edited, Tree(), puts)
        self.assertEqual(len(edited(Tree(), puts[:60]).files), 60)

    def test_an_edit_may_be_long(self):
        drops = tuple(("drop", f"f{number:03}") for number in range(500))
        self.assertEqual(edited(Tree(many_files(60)), drops + (("drop", "f59"),)), Tree(many_files(59)))


class BetweenTest(Asking, unittest.TestCase):

    def test_between(self):
        old = Tree((("a", "1"), ("b", "2"), ("c", "3")))
        new = Tree((("a", "1"), ("b", "x"), ("bb", ""), ("d", "3")))
        edit = (("put", "b", "x"), ("put", "bb", ""), ("drop", "c"), ("put", "d", "3"))
        self.same(between(old, new), edit)
        self.same(between(new=new, old=old), edit)
        self.same(touched(old, new), ("b", "bb", "c", "d"))
        self.same(touched(new=new, old=old), ("b", "bb", "c", "d"))
        self.assertEqual(edited(old, edit), new)

    def test_nothing_and_empty_contents_differ(self):
        self.same(between(Tree(), Tree((("a", ""),))), (("put", "a", ""),))
        self.same(between(Tree((("a", ""),)), Tree()), (("drop", "a"),))
        self.same(between(Tree((("a", ""),)), Tree((("a", "\n"),))), (("put", "a", "\n"),))

    def test_equal_trees(self):
        tree = Tree((("a", "1"),))
        self.same(between(tree, tree), ())
        self.same(touched(tree, tree), ())
        self.same(between(Tree(), Tree()), ())

    def test_whole_trees(self):
        old = Tree(many_files(60))
        new = Tree(tuple(("g" + path, content) for path, content in many_files(60)))
        self.assertEqual(len(between(old, new)), 120)
        self.assertEqual(edited(old, between(old, new)), new)

    def test_wrong_trees(self):
        for function in (between, touched):
            for value in ODD + [(), []]:
                self.bad_value(1, function, value, Tree())
                self.bad_value(2, function, Tree(), value)
                self.bad_value(1, function, value, value)

    def test_by_chance(self):
        chance = random.Random(20)
        for _ in range(300):
            old, new = [
                Tree(tuple((path, chance.choice("xy")) for path in "abcdef" if chance.random() < 0.6))
                for _ in range(2)
            ]
            edit = between(old, new)
            self.assertTrue(plain_only(edit))
            self.assertEqual(edited(old, edit), new)
            self.assertEqual(touched(old, new), tuple(change[1] for change in edit))
            differing = set(old.files) ^ set(new.files)
            self.assertEqual(touched(old, new), tuple(sorted({path for path, _ in differing})))


if __name__ == "__main__":
    unittest.main()
