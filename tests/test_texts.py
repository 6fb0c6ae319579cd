"""Texts: points 17, 76 and 77."""

import random
import unittest

from releasehouse.errors import BadSyntax, BadValue
from releasehouse.houses import House
from releasehouse.texts import parse, printed
from releasehouse.trees import Tree

from drawn import PACKAGES, edit_of, first_of
from helpers import ODD, Asking, ended, listed, plain_only

TREE = Tree((("app/main", "run"), ("build/all", "a\nb\n"), ("c", ""), ("d", "\n\n"), ("e", "|x\n |\n|")))
TREE_LINES = (
    "tree", "file app/main", "|run", "file build/all", "|a", "|b", "|", "file c", "|", "file d", "|", "|", "|", "file e",
    "||x", "| |", "||",
)
EDIT = (("put", "app", "x\ny"), ("drop", "b"), ("put", "c", ""), ("drop", "d/e/f/g"))
EDIT_LINES = ("edit", "put app", "|x", "|y", "drop b", "put c", "|", "drop d/e/f/g")
PACKAGE = ("lib", 2, (("base", 1, 9), ("lib", 3, 3)), "one\n\ntwo")
PACKAGE_LINES = ("package lib 2", "need base 1 9", "need lib 3 3", "content", "|one", "|", "|two")
ALL = ((TREE, TREE_LINES), (EDIT, EDIT_LINES), (PACKAGE, PACKAGE_LINES))


class PrintedTest(Asking, unittest.TestCase):

    def both(self, value, *lines):
        """The value has this text, and the text this value."""
        self.same(printed(value), ended(*lines))
        self.same(parse(ended(*lines)), value)

    def test_each_kind(self):
        for value, lines in ALL:
            self.both(value, *lines)
            self.same(printed(value=value), ended(*lines))
            self.same(parse(text=ended(*lines)), value)
        self.same(printed(listed(EDIT)), ended(*EDIT_LINES))
        self.same(printed(listed(PACKAGE)), ended(*PACKAGE_LINES))

    def test_empty_ones(self):
        self.both(Tree(), "tree")
        self.both((), "edit")
        self.same(printed([]), "edit\n")
        self.both(("a", 1, (), ""), "package a 1", "content", "|")

    def test_contents(self):
        for content, lines in (
            ("", ("|",)), ("\n", ("|", "|")), ("\n\n\n", ("|",) * 4), ("a", ("|a",)), ("a\n", ("|a", "|")),
            ("\na", ("|", "|a")), ("|", ("||",)), ("|\n|", ("||", "||")), (" a  b ", ("| a  b ",)), ("tree", ("|tree",)),
            ("file a\n|b", ("|file a", "||b")), ("x" * 1000, ("|" + "x" * 1000,)), ("\n" * 1000, ("|",) * 1001),
        ):
            self.both(Tree((("a", content),)), "tree", "file a", *lines)
            self.both(Tree((("a", content), ("b", "x"))), "tree", "file a", *lines, "file b", "|x")
            self.both((("put", "a", content), ("drop", "b")), "edit", "put a", *lines, "drop b")
            self.both((("put", "a", content), ("put", "b", "")), "edit", "put a", *lines, "put b", "|")
            self.both(("a", 9, (), content), "package a 9", "content", *lines)

    def test_bounds(self):
        tree = Tree(tuple((f"f{at:02}", "\n") for at in range(60)))
        self.same(parse(printed(tree)), tree)
        edit = tuple(("drop", f"f{at:03}") for at in range(121))
        self.both(edit[:120], "edit", *[f"drop f{at:03}" for at in range(120)])
        self.bad_value(1, printed, edit)
        self.bad_value(1, printed, listed(edit))
        edit = tuple(("put", f"f{at:03}", "x\n") for at in range(121))
        self.same(parse(printed(edit[:120])), edit[:120])
        self.bad_value(1, printed, edit)
        package = ("abcdefghijkl", 9, tuple((name, 1, 9) for name in "abcd"), "x" * 1000)
        self.same(parse(printed(package)), package)

    def test_wrong_values(self):
        wrong = [
            TREE.files, (TREE,), House(Tree()), ("put", "a", "x"), (("put", "a"),), (("put", "b", ""), ("put", "a", "")),
            (("drop", "a"), ("drop", "a")), (("drop", "A"),), (("put", "a", "x" * 1001),), ("lib", 0, (), ""),
            ("lib", 1, (), None), ("lib", True, (), ""), ("lib", 1, (("b", 1, 1), ("a", 1, 1)), ""), ("lib", 1, ()),
            ("lib", 1, tuple((name, 1, 1) for name in "abcde"), ""), ("lib", 1, (), "", ""), PACKAGES,
        ]
        for value in ODD + wrong:
            self.bad_value(1, printed, value)

    def test_drawn(self):
        chance = random.Random(77)
        for _ in range(100):
            for value in (first_of(chance), edit_of(chance), chance.choice(PACKAGES)):
                text = printed(value)
                self.same(parse(text), value)
                self.same(printed(parse(text)), text)
                self.assertTrue(plain_only(parse(text)))


class WrongLinesTest(Asking, unittest.TestCase):

    def wrong(self, at, *lines):
        """The line of this number is wrong, whatever is behind it."""
        self.bad_syntax(at, parse, ended(*lines))
        self.bad_syntax(at, parse, ended(*lines, "?"))
        self.bad_syntax(at, parse, ended(*lines) + "?")
        self.bad_syntax(at, parse, ended(*lines)[:-1] + "\n\n")

    def test_the_first_line(self):
        for line in (
            "", " ", "Tree", "tree ", " tree", "tree a", "trees", "edit ", "edit a", "package", "package a", "package a 0",
            "package a 10", "package A 1", "package  a 1", "package a 1 ", "package a 1 2", "package a one", "|", "|tree",
            "file a", "put a", "drop a", "need a 1 1", "content", "line", "package a1b2c3d4e5f6g 1", "package a/b 1",
        ):
            self.wrong(0, line)

    def test_lines_of_trees(self):
        for line in (
            "", "|", "|x", "file", "file ", "file A", "file a ", "file  a", " file a", "file a b", "file a/b/c/d/e", "file /a",
            "files a", "put a", "drop a", "content", "tree", "edit", "package a 1", "need a 1 1", "File a",
        ):
            self.wrong(1, "tree", line)
            if not line.startswith("|"):
                self.wrong(3, "tree", "file a", "|x", line)
        for line in ("", "x", " |x", "file b", "tree", "?"):
            self.wrong(2, "tree", "file a", line)
            self.wrong(4, "tree", "file a", "|", "file b", line)

    def test_lines_of_edits(self):
        for line in (
            "", "put", "put ", "put A", "put a ", "put  a", "put a b", "drop", "drop A", "drop a b", "file a", "content",
            "need a 1 1", "edit", "drop a/b/c/d/e", "put a/",
        ):
            self.wrong(1, "edit", line)
            self.wrong(2, "edit", "drop a", line)
            self.wrong(3, "edit", "put a", "|", line)
            self.wrong(2, "edit", "put a", line)
        self.wrong(1, "edit", "|")
        self.wrong(2, "edit", "drop a", "|")
        self.wrong(2, "edit", "put a", "put b")
        self.wrong(2, "edit", "put a", "drop b")

    def test_lines_of_packages(self):
        for line in (
            "", "need", "need a", "need a 1", "need a 1 1 1", "need a 2 1", "need a 0 1", "need a 1 10", "need A 1 1",
            "need  a 1 1", "need a 1 1 ", "need a 01 1", "content ", "content a", "contents", "file a", "package a 1",
            "put a", "drop a",
        ):
            self.wrong(1, "package a 1", line)
            self.wrong(2, "package a 1", "need a 1 1", line)
            self.wrong(2, "package a 1", "content", line)
            self.wrong(3, "package a 1", "content", "|x", line)
        self.wrong(1, "package a 1", "|")
        self.wrong(2, "package a 1", "need b 1 1", "|")
        self.wrong(2, "package a 1", "content", "content")
        self.wrong(3, "package a 1", "content", "|", "need b 1 1")
        self.wrong(3, "package a 1", "content", "|", "content")

    def test_what_is_lacking(self):
        self.bad_syntax(0, parse, "")
        for text in ("tree", "edit", "package a 1", "?", "x" * 60000):
            self.bad_syntax(0, parse, text)
        self.bad_syntax(2, parse, "tree\nfile a\n")
        self.bad_syntax(4, parse, "tree\nfile a\n|\nfile b\n")
        self.bad_syntax(2, parse, "edit\nput a\n")
        self.bad_syntax(1, parse, "package a 1\n")
        self.bad_syntax(2, parse, "package a 1\nneed a 1 1\n")
        self.bad_syntax(2, parse, "package a 1\ncontent\n")

    def test_no_line_feed_at_the_end(self):
        for _, lines in ALL:
            text = ended(*lines)
            for at in range(len(text)):
                if text[at] == "\n":
                    self.bad_syntax(text[:at].count("\n"), parse, text[:at])
            self.bad_syntax(len(lines), parse, text + "|")
            self.bad_syntax(len(lines), parse, text + "x")
        # A wrong line ahead comes first.
        self.bad_syntax(1, parse, "tree\nfile\nfile a")
        self.bad_syntax(1, parse, "tree\nfile a")

    def test_cut_off(self):
        """A beginning of a text has what is lacking told at its line feeds, or is a text itself."""
        for value, lines in ALL:
            text = ended(*lines)
            for at in range(len(text)):
                try:
                    part = parse(text[:at])
                except BadSyntax as wrong:
                    self.assertEqual(wrong.at, text[:at].count("\n"))
                else:
                    self.assertTrue(text[:at].endswith("\n"))
                    self.assertEqual(printed(part), text[:at])
                    self.assertNotEqual(part, value)

    def test_one_line_fewer_or_more(self):
        for _, lines in ALL:
            for at in range(len(lines)):
                for changed in (lines[:at] + lines[at + 1:], lines[:at] + ("?",) + lines[at:], lines[:at] + lines[at:at + 1] * 2 + lines[at + 1:]):
                    text = ended(*changed)
                    try:
                        value = parse(text)
                    except BadSyntax as wrong:
                        self.assertIn(wrong.at, range(at, at + 2))
                    except BadValue as wrong:
                        # The same path or name twice.
                        self.assertEqual((wrong.at, changed[at]), (1, changed[at + 1]))
                    else:
                        self.assertEqual(printed(value), text)


class NothingToldTest(Asking, unittest.TestCase):
    """Texts that have the form, but tell no tree, no edit, no package."""

    def none(self, *lines):
        self.bad_value(1, parse, ended(*lines))
        # What has not the form is told ahead.
        self.bad_syntax(len(lines), parse, ended(*lines, "?"))
        self.bad_syntax(len(lines), parse, ended(*lines) + "?")

    def test_trees(self):
        self.none("tree", "file b", "|", "file a", "|")
        self.none("tree", "file a", "|", "file a", "|")
        self.none("tree", "file a/b", "|", "file a", "|")
        self.none("tree", "file a", "|" + "x" * 1001)
        self.none("tree", "file a", *["|"] * 1002)
        lines = [line for at in range(61) for line in (f"file f{at:02}", "|")]
        self.none("tree", *lines)
        self.assertEqual(len(parse(ended("tree", *lines[:-2])).files), 60)

    def test_edits(self):
        self.none("edit", "drop b", "drop a")
        self.none("edit", "drop a", "put a", "|")
        self.none("edit", "put a", "|" + "x" * 1001)
        self.none("edit", *[f"drop f{at:03}" for at in range(121)])
        self.assertEqual(len(parse(ended("edit", *[f"drop f{at:03}" for at in range(120)]))), 120)

    def test_packages(self):
        self.none("package a 1", "need b 1 1", "need a 1 1", "content", "|")
        self.none("package a 1", "need b 1 1", "need b 2 2", "content", "|")
        self.none("package a 1", *[f"need {name} 1 1" for name in "abcde"], "content", "|")
        self.none("package a 1", "content", "|" + "x" * 1001)
        self.none("package a 1", "content", *["|"] * 1002)

    def test_wrong_values(self):
        for value in ODD + [(), [], TREE, House(Tree()), list(TREE_LINES)]:
            if not isinstance(value, str):
                self.bad_value(1, parse, value)
            else:
                self.bad_syntax(0, parse, value)


if __name__ == "__main__":
    unittest.main()
