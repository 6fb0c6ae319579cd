"""Settings: points 22 to 26."""

import random
import unittest

from releasehouse.files import asked_facts, check, settled
from releasehouse.trees import Tree

from helpers import ODD, Asking, listed, one_file

FACTS = (("kind", "shop"), ("land", "fr"))


def settings(*lines):
    return one_file("set/all", *lines)


class SettledTest(Asking, unittest.TestCase):

    def test_example_of_the_document(self):
        self.same(settled(Tree((("set/all", "color = red\n"),)), ()), (("color", ("red",)),))

    def test_assign_add_drop(self):
        tree = settings("b = x y", "a += one", "a += two three", "b += z", "c = gone", "drop c", "drop never")
        self.same(settled(tree, ()), (("a", ("one", "two", "three")), ("b", ("x", "y", "z"))))
        self.same(settled(settings("a = x", "a = y"), ()), (("a", ("y",)),))
        self.same(settled(settings("a = x x", "a += x"), ()), (("a", ("x", "x", "x")),))
        self.same(settled(settings("a = x", "drop a", "a += y"), ()), (("a", ("y",)),))

    def test_words_of_the_forms_may_be_keys(self):
        tree = settings("drop = x", "when = is", "end = end", "is += when", "drop drop")
        self.same(settled(tree, ()), (("end", ("end",)), ("is", ("when",)), ("when", ("is",))))

    def test_when(self):
        tree = settings("a = x", "when land is fr", "a = y", "b = z", "end", "c = w")
        self.same(settled(tree, FACTS), (("a", ("y",)), ("b", ("z",)), ("c", ("w",))))
        self.same(settled(tree, listed(FACTS)), (("a", ("y",)), ("b", ("z",)), ("c", ("w",))))
        self.same(settled(tree, ()), (("a", ("x",)), ("c", ("w",))))
        self.same(settled(tree, (("land", "de"),)), (("a", ("x",)), ("c", ("w",))))
        self.same(settled(tree, (("fr", "land"),)), (("a", ("x",)), ("c", ("w",))))
        self.same(settled(facts=FACTS, tree=tree)[0], ("a", ("y",)))

    def test_drop_and_add_behind_a_when(self):
        tree = settings("a = x", "when land is fr", "drop a", "end", "when kind is shop", "a += y", "end")
        self.same(settled(tree, FACTS), (("a", ("y",)),))
        self.same(settled(tree, (("kind", "shop"),)), (("a", ("x", "y")),))
        self.same(settled(tree, (("land", "fr"),)), ())

    def test_files_are_done_by_paths(self):
        tree = Tree((
            ("set/a", "k = one\nwhen land is fr\nk += two\nend"),
            ("set/a/b", "k += three"),
            ("set/b", "k += four\n"),
        ))
        self.same(settled(tree, FACTS), (("k", ("one", "two", "three", "four")),))
        self.same(settled(tree, ()), (("k", ("one", "three", "four")),))

    def test_only_files_below_set(self):
        tree = Tree((("pack/x", "a = x"), ("set", "a = y"), ("set0/a", "a = z"), ("sets/a", "?")))
        self.same(settled(tree, ()), ())
        self.same(settled(Tree((("set/a/b/c", "a = x"),)), ()), (("a", ("x",)),))

    def test_lines(self):
        for content in ("", "\n", "\n\n\n"):
            self.same(settled(Tree((("set/a", content),)), ()), ())
        for content in ("a = x", "a = x\n", "\na = x", "\n\na = x\n\n"):
            self.same(settled(Tree((("set/a", content),)), ()), (("a", ("x",)),))

    def test_wrong_lines(self):
        wrong = (
            "a", "a =", "a +=", "a = ", "= x", "a == x", "a =+ x", "a=x", "a =x", "drop", "drop a b",
            "drop A", "when a is", "when a = b c", "when a was b", "when a is b c", "when A is b", "when a is B",
            "end end", "End", "a = X", "A = x", "a = 1x", "a = x Y", "a = a23456789012x", " a = x", "a = x ",
            "a  = x", "a =  x", "a = x  y", " ", "  ", " end", "end ", "a = =", "a = x =", "a += +=",
            "a = x|y", "#", "1a = x", "unset a",
        )
        for line in wrong:
            self.bad_file("set/all", 1, settled, settings(line), ())
            self.bad_file("set/all", 1, asked_facts, settings(line))
            self.bad_file("set/all", 3, settled, settings("a = x", "", line, "a ="), ())
            self.assertEqual(check(settings("", line)), ("set/all", 2))

    def test_whens_and_ends(self):
        cases = (
            (("when a is b",), 1),
            (("when a is b", "k = x"), 1),
            (("end",), 1),
            (("k = x", "end"), 2),
            (("when a is b", "when c is d", "end"), 2),
            (("when a is b", "when c is d", "end", "end"), 2),
            (("when a is b", "when c is d"), 1),
            (("when a is b", "end", "end"), 3),
            (("when a is b", "end", "when a is b"), 3),
            (("when a is b", "end", "when a is b", "?"), 3),
            (("when a is b", "?", "end"), 2),
            (("when a is b", "?"), 1),
            (("when a is b", " end"), 1),
            (("when a is b", " end", "end"), 2),
            (("when a is b", "k = end"), 1),
            (("", "when a is b", "", "k = x"), 2),
            (("end", "when a is b"), 1),
        )
        for lines, at in cases:
            self.bad_file("set/all", at, settled, settings(*lines), ())
            self.bad_file("set/all", at, asked_facts, settings(*lines))
            self.assertEqual(check(settings(*lines)), ("set/all", at))

    def test_an_end_stands_in_the_same_file(self):
        tree = Tree((("set/a", "when a is b\n"), ("set/b", "end\n")))
        self.bad_file("set/a", 1, settled, tree, ())
        self.bad_file("set/b", 1, settled, Tree((("set/a", "when a is b\nend"), ("set/b", "end"))), ())

    def test_the_first_wrong_file_by_paths(self):
        tree = Tree((("set/a", "x = y\n"), ("set/b", "x = y\n\n?\n?"), ("set/c", "?")))
        self.bad_file("set/b", 3, settled, tree, ())
        self.bad_file("set/b", 3, asked_facts, tree)
        # Other files are not read for settings.
        tree = Tree((("build/a", "?"), ("fleet/places", "?"), ("own/rules", "?"), ("pack/goals", "?")))
        self.same(settled(tree, ()), ())
        self.same(asked_facts(tree), ())

    def test_wrong_arguments(self):
        wrong_tree = settings("?")
        for value in ODD + [(), []]:
            self.bad_value(1, settled, value, ())
            self.bad_value(1, settled, value, "a")
            self.bad_value(1, asked_facts, value)
        # ODD has no pair of two words in a sequence.
        for value in ODD + [Tree()]:
            self.bad_value(2, settled, Tree(), value)
            self.bad_value(2, settled, wrong_tree, value)

    def test_facts(self):
        facts = tuple((name, "x") for name in "abcde")
        self.same(settled(Tree(), facts[:4]), ())
        wrong = (
            facts, (("b", "x"), ("a", "x")), (("a", "x"), ("a", "x")), (("a", "x"), ("a", "y")),
            (("a", "X"),), (("A", "x"),), (("a", ""),), (("", "x"),), (("a/b", "x"),), (("a", "x", "y"),),
            (("a",),), ("ab",), (("a", "a23456789012x"),), (("a", True),), ((1, "x"),), (("a", ("x",)),),
        )
        for value in wrong:
            self.bad_value(2, settled, Tree(), value)
        self.same(settled(Tree(), (("a", "x"), ("b", "x"))), ())


class AskedFactsTest(Asking, unittest.TestCase):

    def test_ascending_each_once(self):
        tree = Tree((
            ("set/a", "when land is fr\nend\nwhen kind is shop\nx = y\nend\n"),
            ("set/b", "when land is de\nx = z\nend\nwhen art is a\nend\nis = when\n"),
        ))
        self.same(asked_facts(tree), ("art", "kind", "land"))
        self.same(asked_facts(tree=tree), ("art", "kind", "land"))
        self.same(asked_facts(settings("a = x")), ())
        self.same(asked_facts(Tree()), ())

    def test_settled_hangs_on_these_alone(self):
        chance = random.Random(26)
        names, words = "abcd", "xy"
        for _ in range(200):
            lines = []
            for _ in range(chance.randint(0, 5)):
                lines.append(f"when {chance.choice(names)} is {chance.choice(words)}")
                key = chance.choice("kl")
                lines.append(chance.choice((f"{key} = u", f"{key} += v", f"drop {key}", "")))
                lines.append("end")
                lines.append(chance.choice(("k += w", "l = w", "drop k", "")))
            tree = settings(*lines)
            facts = [(name, chance.choice(words)) for name in names if chance.random() < 0.7]
            asked = [pair for pair in facts if pair[0] in asked_facts(tree)]
            self.assertEqual(settled(tree, facts), settled(tree, asked))


if __name__ == "__main__":
    unittest.main()
