"""Expressions and rules: points 35 to 37."""

import unittest

from releasehouse.expressions import is_expression
from releasehouse.files import check, rules
from releasehouse.trees import Tree

from helpers import ODD, Asking, one_file


def build(*lines):
    return one_file("build/all", *lines)


RIGHT = (
    "line", "file a", "file a/b/c/d", "each a/b", "names a", "pack p1", "version p", "set color", "lit x",
    "lit " + "x" * 40, "lit =", "lit dep", "lit |", "lit lit", "cat line line", "up lit a", "size line",
    "has lit a lit b", "same line line", "not line", "if line line line", "cat cat line line line",
    "cat line cat line line", "if not line up size line cat lit cat lit if", "not " * 59 + "line",
    "cat " * 29 + "line " * 29 + "not line", "cat " * 15 + "lit a " * 15 + "line",
)
WRONG = (
    "", " ", "line line", "line ", " line", "cat line", "cat line line line", "cat", "up", "not", "if line line",
    "if line line line line", "has line", "file", "file A", "file a/", "file a/b/c/d/e", "file a b", "each", "each /a",
    "names 1a", "pack", "pack a/b", "pack P", "version a/b", "version", "set", "set a/b", "set A", "lit",
    "lit " + "x" * 41, "lit  ", "lit a b", "cat line  line", "dep", "dep A", "dep a/b", "dep none", "read a",
    "line cat line", "line not", "lit a up", "file a if line line", "Line", "x", "not " * 60 + "line",
    "cat " * 30 + "line " * 30 + "line", "file a23456789012x",
)


class ExpressionsTest(Asking, unittest.TestCase):

    def test_right_ones(self):
        for text in RIGHT:
            tree = build("target out = " + text)
            self.same(rules(tree), (("target", "out", tuple(text.split(" "))),))
            self.assertIsNone(check(tree))
            tree = build("test out = " + text)
            self.same(rules(tree), (("test", "out", tuple(text.split(" "))),))

    def test_wrong_ones(self):
        for text in WRONG:
            tree = build("target first = line", "", "target out = " + text, "?")
            self.bad_file("build/all", 3, rules, tree)
            self.assertEqual(check(tree), ("build/all", 3))

    def test_values_that_are_no_expressions(self):
        self.assertTrue(is_expression(["cat", "line", "line"]))
        self.assertTrue(is_expression(("lit", "x")))
        wrong = (
            [None], [True], [1], [["line"]], ["cat", "line", None], ["lit", None], ["lit", ["x"]], ["lit", ""],
            ["lit", "a b"], ["lit", " "], ["lit", "a\n"], ["file", None], ["file", ["a"]], ["dep", ()],
            ["cat line line"], ["cat", ["line"], ["line"]], "line",
        )
        for value in wrong:
            self.assertFalse(is_expression(value), value)
        for value in ODD + [(), []]:
            self.assertFalse(is_expression(value), value)

    def test_sixty_parts(self):
        self.assertEqual(len(("not " * 59 + "line").split(" ")), 60)
        self.assertEqual(len(rules(build("target out = " + "not " * 59 + "line"))[0][2]), 60)
        self.bad_file("build/all", 1, rules, build("target out = " + "not " * 60 + "line"))


class RulesTest(Asking, unittest.TestCase):

    def test_example_of_the_document(self):
        tree = build("target out = cat file app/main set color", "test fine = has dep out lit run")
        self.same(rules(tree), (
            ("target", "out", ("cat", "file", "app/main", "set", "color")),
            ("test", "fine", ("has", "dep", "out", "lit", "run")),
        ))
        self.assertEqual(rules(tree=tree), rules(tree))

    def test_none(self):
        self.same(rules(Tree()), ())
        self.same(rules(build()), ())
        self.same(rules(build("", "", "")), ())
        self.same(rules(Tree((("build", "?"), ("build0/a", "?"), ("buildx", "?")))), ())

    def test_empty_lines_count(self):
        self.same(rules(build("", "target a = line", "", "test b = line")), (
            ("target", "a", ("line",)), ("test", "b", ("line",)),
        ))
        self.same(rules(Tree((("build/a", "target a = line"),))), (("target", "a", ("line",)),))

    def test_wrong_lines(self):
        wrong = (
            "target", "target a", "target a =", "target = line", "target a line", "Target a = line",
            "rule a = line", "target A = line", "target 1 = line", "target a/b = line", "target a == line",
            "target a = line ", " target a = line", "target  a = line", "a = line", " ", "test a =", "x",
            "target a23456789012x = line", "target a b = line",
        )
        for line in wrong:
            self.bad_file("build/all", 2, rules, build("", line, "?"))

    def test_files_make_one_row(self):
        tree = Tree((
            ("build/a", "target a = line\n"),
            ("build/a/b", "target b = dep a"),
            ("build/b", "\ntest c = cat dep a dep b\n"),
        ))
        self.same(rules(tree), (
            ("target", "a", ("line",)),
            ("target", "b", ("dep", "a")),
            ("test", "c", ("cat", "dep", "a", "dep", "b")),
        ))

    def test_a_name_twice(self):
        for first in ("target a = line", "test a = line"):
            for second in ("target a = line", "test a = line", "test a = dep a"):
                self.bad_file("build/all", 2, rules, build(first, second))
                tree = Tree((("build/a", "\n" + first), ("build/b", "\n\n" + second)))
                self.bad_file("build/b", 3, rules, tree)

    def test_deps_name_earlier_targets(self):
        self.bad_file("build/all", 1, rules, build("target a = dep a"))
        self.bad_file("build/all", 1, rules, build("target a = dep b", "target b = line"))
        self.bad_file("build/all", 2, rules, build("test a = line", "target b = dep a"))
        self.bad_file("build/all", 2, rules, build("target a = line", "test b = if line dep a dep c"))
        self.bad_file("build/all", 2, rules, build("target a = line", "test b = cat dep a dep b"))
        tree = Tree((("build/a", "target b = dep a"), ("build/b", "target a = line")))
        self.bad_file("build/a", 1, rules, tree)
        tree = build("target dep = line", "test b = cat dep dep lit dep")
        self.same(rules(tree)[1], ("test", "b", ("cat", "dep", "dep", "lit", "dep")))
        # The word behind lit is a text, whatever it is.
        self.assertEqual(len(rules(build("target b = cat lit dep lit x"))), 1)

    def test_forty_lines(self):
        lines = [f"target a{number} = line" for number in range(41)]
        self.assertEqual(len(rules(build(*lines[:40]))), 40)
        self.assertEqual(len(rules(build("", *lines[:40], "", ""))), 40)
        self.bad_file("build/all", 41, rules, build(*lines))
        self.bad_file("build/all", 42, rules, build("", *lines))
        tree = Tree((("build/a", "\n".join(lines[:20])), ("build/b", "\n\n".join(lines[20:]))))
        self.bad_file("build/b", 41, rules, tree)

    def test_the_first_wrong_file_by_paths(self):
        tree = Tree((("build/a", "target a = line\n?"), ("build/b", "?"), ("set/a", "?")))
        self.bad_file("build/a", 2, rules, tree)
        self.same(rules(Tree((("own/rules", "?"), ("set/a", "?")))), ())

    def test_wrong_arguments(self):
        for value in ODD + [(), []]:
            self.bad_value(1, rules, value)


if __name__ == "__main__":
    unittest.main()
