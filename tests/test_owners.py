"""Approvals: points 16, 52, 53 and 54."""

import random
import unittest

from releasehouse.owners import approvals, approved
from releasehouse.trees import Tree, touched

from helpers import ODD, Asking, listed, one_file, plain_only

LINES = (
    "own all/ 1 ann bob", "", "own app 2 ann bob eve", "own app/x 0 joe", "own app/x/y 3 ann bob", "own appx 1 zoe",
)


def owned(lines, *paths):
    """Return a tree with these lines, and these files."""
    files = {path: "x" for path in paths}
    if lines is not None:
        files["own/rules"] = "\n".join(lines)
    return Tree(tuple(sorted(files.items())))


class ApprovalsTest(Asking, unittest.TestCase):

    def numbers(self, path, lines=LINES):
        return [line for line, _, _ in approvals(owned(lines), path)]

    def test_the_lines(self):
        self.same(approvals(owned(LINES), "app"), ((1, 1, ("ann", "bob")), (3, 2, ("ann", "bob", "eve"))))
        self.same(approvals(tree=owned(LINES), path="app/x"), (
            (1, 1, ("ann", "bob")), (3, 2, ("ann", "bob", "eve")), (4, 0, ("joe",)),
        ))
        twice = owned(("own a 0 c b a", "own a 0 c b a"))
        self.same(approvals(twice, "a"), ((1, 0, ("c", "b", "a")), (2, 0, ("c", "b", "a"))))

    def test_which_lines_touch(self):
        self.assertEqual(self.numbers("app"), [1, 3])
        self.assertEqual(self.numbers("app/x"), [1, 3, 4])
        self.assertEqual(self.numbers("app/x/y"), [1, 3, 4, 5])
        self.assertEqual(self.numbers("app/x/y/z"), [1, 3, 4, 5])
        self.assertEqual(self.numbers("app/xy"), [1, 3])
        self.assertEqual(self.numbers("appx"), [1, 6])
        self.assertEqual(self.numbers("appx/y"), [1, 6])
        self.assertEqual(self.numbers("appxx"), [1])
        self.assertEqual(self.numbers("ap"), [1])
        self.assertEqual(self.numbers("own/rules"), [1])
        # The word all is a path like others.
        lines = ("own all 1 ann", "own all/ 1 ann", "own all/a 1 ann")
        self.assertEqual(self.numbers("all", lines), [1, 2])
        self.assertEqual(self.numbers("all/a", lines), [1, 2, 3])
        self.assertEqual(self.numbers("a", lines), [2])

    def test_none(self):
        self.same(approvals(Tree(), "app"), ())
        self.same(approvals(owned(()), "app"), ())
        self.same(approvals(owned(("own app 1 ann",)), "apple"), ())
        self.same(approvals(Tree((("own", "?"), ("own/rules/a", "?"))), "own"), ())

    def test_wrong_arguments(self):
        wrong = one_file("own/rules", "own a 1 ann", "", "?")
        for value in ODD + [(), []]:
            self.bad_value(1, approvals, value, None)
            if value not in ("a", "a/b", "put", "drop", "clash"):
                self.bad_value(2, approvals, wrong, value)
        for path in ("all/", "a/", "/a", "a//b", "a/b/c/d/e", "A", "a b", "a\n", "1", "a23456789012x", ("a",)):
            self.bad_value(2, approvals, wrong, path)
        self.bad_file("own/rules", 3, approvals, wrong, "z")
        self.same(approvals(Tree((("build/a", "?"), ("pack/goals", "?"), ("set/a", "?"))), "a"), ())
        self.same(approvals(owned(LINES), "a/b/c/d"), ((1, 1, ("ann", "bob")),))


class ApprovedTest(Asking, unittest.TestCase):

    def gives(self, wanted, given, lines, author="eve", change=("app/x",)):
        """The answer, for lines that are in both trees, only those of old or only those of new."""
        tree = owned(lines)
        self.same(approved(tree, owned(lines, *change), author, given), wanted)
        return tree

    def test_counts(self):
        for count in range(4):
            line = f"own app {count} ann bob cid"
            for text in ("", "ann", "ann bob", "ann bob cid", "bob cid dan", "dan eli flo"):
                given = tuple(text.split())
                enough = len([name for name in given if name in ("ann", "bob", "cid")]) >= count
                wanted = ("yes", ((0, 1), (1, 1))) if enough else ("no", (0, 1))
                self.gives(wanted, given, (line,))
                self.gives(wanted, list(given), (line,))
        self.gives(("yes", ((0, 1), (1, 1))), (), ("own app 0 ann",))
        self.gives(("no", (0, 1)), ("ann", "bob"), ("own app 3 ann bob",))

    def test_the_author_does_not_count(self):
        line = ("own app 1 ann eve",)
        self.gives(("no", (0, 1)), ("eve",), line)
        self.gives(("yes", ((0, 1), (1, 1))), ("ann", "eve"), line)
        self.gives(("yes", ((0, 1), (1, 1))), ("eve",), line, author="ann")
        self.gives(("no", (0, 1)), ("ann", "eve"), ("own app 2 ann eve",))
        self.gives(("yes", ((0, 1), (1, 1))), ("ann", "eve"), ("own app 2 ann eve",), author="joe")
        self.gives(("yes", ((0, 1), (1, 1))), ("eve",), ("own app 0 eve",))

    def test_only_lines_that_touch_a_change(self):
        self.gives(("yes", ()), (), ("own app 1 ann",), change=())
        self.gives(("yes", ()), (), ("own app 1 ann",), change=("appx", "b"))
        self.gives(("yes", ()), (), ("own app/x 1 ann",), change=("app", "app/y"))
        self.gives(("no", (0, 1)), (), ("own app 1 ann",), change=("app",))
        self.gives(("no", (0, 2)), (), ("own appx 1 ann", "own app 1 ann"))
        self.gives(("yes", ((0, 2), (1, 2))), ("ann",), ("own appx 1 ann", "own app 1 ann"))
        self.gives(("no", (0, 1)), (), ("own all/ 1 ann",), change=("b",))
        self.gives(("yes", ()), (), ("own all/ 3 ann",), change=())
        # Files that are dropped, or that get another content.
        old = owned(("own app 1 ann",), "app/x")
        self.same(approved(old, owned(("own app 1 ann",)), "eve", ()), ("no", (0, 1)))
        other = Tree((("app/x", "y"), ("own/rules", "own app 1 ann")))
        self.same(approved(old, other, "eve", ()), ("no", (0, 1)))
        self.same(approved(old, old, "eve", ()), ("yes", ()))

    def test_both_sides(self):
        none = owned(None)
        lines = ("own app 1 ann", "", "own all/ 1 bob")
        new = owned(lines, "app/x")
        self.same(approved(none, new, "eve", ()), ("no", (1, 1)))
        self.same(approved(none, new, "eve", ("ann",)), ("no", (1, 3)))
        self.same(approved(none, new, "eve", ("ann", "bob")), ("yes", ((1, 1), (1, 3))))
        old = owned(lines)
        gone = owned(None, "app/x")
        self.same(approved(old, gone, "eve", ()), ("no", (0, 1)))
        self.same(approved(old, gone, "eve", ("ann",)), ("no", (0, 3)))
        self.same(approved(old, gone, "eve", ("ann", "bob")), ("yes", ((0, 1), (0, 3))))
        both = owned(("own all/ 1 cid", "own app/x 0 dan"), "app/x")
        self.same(approved(old, both, "eve", ("ann", "bob")), ("no", (1, 1)))
        self.same(approved(old, both, "eve", ("cid",)), ("no", (0, 1)))
        self.same(approved(old, both, "eve", ("ann", "bob", "cid")), ("yes", ((0, 1), (0, 3), (1, 1), (1, 2))))
        # The change of own/rules is touched itself.
        self.same(approved(owned(("own own 1 ann",)), none, "eve", ()), ("no", (0, 1)))
        self.same(approved(none, owned(("own own/rules 1 ann",)), "eve", ()), ("no", (1, 1)))
        self.same(approved(old=none, new=none, author="eve", given=()), ("yes", ()))

    def test_eight_are_given(self):
        given = tuple("abcdefgh")
        tree = owned(("own app 3 f g h",))
        self.same(approved(tree, owned(("own app 3 f g h",), "app"), "eve", given), ("yes", ((0, 1), (1, 1))))
        self.bad_value(4, approved, tree, tree, "eve", given + ("i",))

    def test_wrong_arguments(self):
        wrong = one_file("own/rules", "?")
        for value in ODD + [(), []]:
            self.bad_value(1, approved, value, None, None, None)
            self.bad_value(2, approved, wrong, value, None, None)
            if value not in ("a", "put", "drop", "clash"):
                self.bad_value(3, approved, wrong, wrong, value, None)
            if value not in ((), [], ["a"], ("a", "b")):
                self.bad_value(4, approved, wrong, wrong, "eve", value)
        wrongly = (("b", "a"), ("a", "a"), ("a", "B"), ("a", None), ("a/b",), "a", ("a", ("b",)), tuple("abcdefghi"))
        for given in wrongly:
            self.bad_value(4, approved, wrong, wrong, "eve", given)
        for author in ("Eve", "a/b", "", "e v", "a23456789012x", None, ("eve",)):
            self.bad_value(3, approved, wrong, wrong, author, ("b", "a"))

    def test_wrong_files(self):
        right = owned(("own all/ 3 ann",), "app")
        first = one_file("own/rules", "", "?")
        second = one_file("own/rules", "", "own a 0 ann", "?", "?")
        self.bad_file("own/rules", 2, approved, first, right, "eve", ())
        self.bad_file("own/rules", 3, approved, right, second, "eve", ())
        self.bad_file("own/rules", 2, approved, first, second, "eve", ())
        self.bad_file("own/rules", 3, approved, second, first, "eve", ())
        # Also where nothing is changed.
        self.bad_file("own/rules", 2, approved, first, first, "eve", ())
        others = Tree((("build/a", "?"), ("fleet/places", "?"), ("pack/goals", "?"), ("set/a", "?")))
        self.same(approved(others, Tree(), "eve", ()), ("yes", ()))

    def test_random_trees(self):
        chance = random.Random(54)
        names = ("ann", "bob", "cid", "dan")
        met = {}
        for _ in range(1500):
            trees = [self.random_tree(chance, names) for _ in range(2)]
            author = chance.choice(names)
            given = tuple(sorted(chance.sample(names, chance.randint(0, 4))))
            got = approved(trees[0], trees[1], author, chance.choice((given, list(given))))
            self.same(got, self.answer(trees, author, given))
            self.assertTrue(plain_only(got))
            met[(got[0], got[1] != () and got[1][0])] = True
            if got[0] == "yes":
                more = tuple(sorted({*given, chance.choice(names), "zoe"}))
                self.same(approved(trees[0], trees[1], author, listed(more)), got)
        self.assertTrue({("yes", False), ("no", 0), ("no", 1)} < set(met))

    def random_tree(self, chance, names):
        lines = []
        for _ in range(chance.randint(0, 3)):
            prefix = chance.choice(("all/", "app", "app/x", "appx", "own", "b"))
            owners = chance.sample(names, chance.randint(1, 3))
            lines.append(chance.choice(("", " ".join(["own", prefix, str(chance.choice((0, 1, 1, 2, 3))), *owners]))))
        paths = [path for path in ("app", "app/x", "app/xy", "appx", "b/c") if chance.random() < 0.4]
        return owned(lines, *paths)

    def answer(self, trees, author, given):
        """What the document tells, by the lines that `approvals` returns for each path that is touched."""
        asked = {}
        for side, tree in enumerate(trees):
            for path in touched(*trees):
                for line, count, names in approvals(tree, path):
                    asked[(side, line)] = len(set(names) & set(given) - {author}) >= count
        for pair in sorted(asked):
            if not asked[pair]:
                return ("no", pair)
        return ("yes", tuple(sorted(asked)))


if __name__ == "__main__":
    unittest.main()
