"""Goals, approvals and places in files, and check: points 17, 22, 31, 52 and 55."""

import random
import unittest

from releasehouse.errors import BadFile
from releasehouse.files import asked_facts, check, goals, places, rules, settled
from releasehouse.rows import read_approvals
from releasehouse.trees import Tree

from helpers import ODD, Asking, one_file

KINDS = ("build/all", "fleet/places", "own/rules", "pack/goals", "set/all")


class GoalsTest(Asking, unittest.TestCase):

    def wanted(self, *lines):
        return goals(one_file("pack/goals", *lines))

    def wrong(self, at, *lines):
        self.bad_file("pack/goals", at, goals, one_file("pack/goals", *lines))
        self.assertEqual(check(one_file("pack/goals", *lines)), ("pack/goals", at))

    def test_goals(self):
        self.same(self.wanted("need b 1 9", "", "need a 2 2"), (("a", 2, 2), ("b", 1, 9)))
        self.same(goals(tree=one_file("pack/goals", "need need 1 1")), (("need", 1, 1),))
        self.same(goals(Tree((("pack/goals", "need a 1 1"),))), (("a", 1, 1),))

    def test_none(self):
        self.same(goals(Tree()), ())
        self.same(self.wanted(), ())
        self.same(self.wanted("", ""), ())
        self.same(goals(Tree((("pack", "?"), ("pack/goals/a", "?"), ("pack/other", "?")))), ())

    def test_wrong_lines(self):
        lines = (
            "need", "need a", "need a 1", "need a 1 1 1", "need A 1 1", "need a 0 1", "need a 0 0", "need a 1 10",
            "need a 01 1", "need a 2 1", "need a 9 8", "need a x 1", "need a 1 x", "need a -1 1", "need a  1 1",
            " need a 1 1", "need a 1 1 ", " ", "Need a 1 1", "want a 1 1", "a 1 1", "need 1 1 1", "need a 12 3",
            "need a23456789012x 1 1", "need a/b 1 1", "need a 1 +1",
        )
        for line in lines:
            self.wrong(1, line)
            self.wrong(3, "need b 1 1", "", line, "?")

    def test_a_name_twice(self):
        self.wrong(2, "need a 1 1", "need a 1 1")
        self.wrong(4, "need a 1 1", "need b 1 1", "", "need a 2 3")

    def test_six_lines(self):
        lines = [f"need {name} 1 9" for name in "gfedcba"]
        self.assertEqual(len(self.wanted(*lines[:6])), 6)
        self.assertEqual([need[0] for need in self.wanted("", *lines[:6], "")], list("bcdefg"))
        self.wrong(7, *lines)
        self.wrong(8, "", *lines)

    def test_wrong_arguments(self):
        for value in ODD + [(), []]:
            self.bad_value(1, goals, value)


class ApprovalLinesTest(Asking, unittest.TestCase):

    def test_right_lines(self):
        lines = (
            "own all/ 0 ann", "own all 1 ann", "own a 3 ann", "own a/b/c/d 2 ann bob", "own own 1 own",
            "own a 1 a b c d e f", "own a 3 a b", "own a 0 a23456789012",
        )
        for line in lines:
            self.assertIsNone(check(one_file("own/rules", line)))
        self.assertIsNone(check(one_file("own/rules", *lines, "", *lines)))

    def test_wrong_lines(self):
        lines = (
            "own", "own a", "own a 1", "own a 1 ", "own a 4 ann", "own a -1 ann", "own a 10 ann", "own a x ann",
            "own a 1 Ann", "own a 1 ann ann", "own a 1 ann bob ann", "own a 1 a b c d e f g", "own all// 1 ann",
            "own a/ 1 ann", "own / 1 ann", "own a/b/c/d/e 1 ann", "own A 1 ann", "own a ann", "own 1 ann bob",
            " own a 1 ann", "own  a 1 ann", "own a 1 ann  bob", " ", "Own a 1 ann", "rule a 1 ann", "own a 01 ann",
            "own /all 1 ann", "own a 1 a/b", "own a 1 1a", "own a 1 a23456789012x", "own a 1 a,b",
        )
        for line in lines:
            self.assertEqual(check(one_file("own/rules", line)), ("own/rules", 1), line)
            tree = one_file("own/rules", "own a 1 ann", "", line, "?")
            self.assertEqual(check(tree), ("own/rules", 3), line)

    def test_what_the_lines_tell(self):
        tree = one_file("own/rules", "own all/ 0 bob ann", "", "own a/b 3 ann")
        self.same(read_approvals(tree.files), ((1, "all/", 0, ("bob", "ann")), (3, "a/b", 3, ("ann",))))
        self.same(read_approvals(Tree().files), ())

    def test_other_files_tell_nothing(self):
        self.assertIsNone(check(Tree((("own", "?"), ("own/rules/a", "?"), ("own/rulesx", "?")))))


class PlacesTest(Asking, unittest.TestCase):

    def found(self, *lines):
        return places(one_file("fleet/places", *lines))

    def wrong(self, at, *lines):
        self.bad_file("fleet/places", at, places, one_file("fleet/places", *lines))
        self.assertEqual(check(one_file("fleet/places", *lines)), ("fleet/places", at))

    def test_by_wave_then_by_name(self):
        lines = ("place paris 2 kind=shop land=fr", "", "place bonn 2", "place wien 1 land=at", "place place 9")
        wanted = (
            ("wien", 1, (("land", "at"),)),
            ("bonn", 2, ()),
            ("paris", 2, (("kind", "shop"), ("land", "fr"))),
            ("place", 9, ()),
        )
        self.same(self.found(*lines), wanted)
        self.same(places(tree=one_file("fleet/places", *lines)), wanted)
        lines = ("place b 1 a=x", "place a 1 z=x", "place c 1")
        self.same([place[0] for place in self.found(*lines)], ["a", "b", "c"])

    def test_none(self):
        self.same(places(Tree()), ())
        self.same(self.found(), ())
        self.same(self.found(""), ())
        self.same(places(Tree((("fleet", "?"), ("fleet/other", "?"), ("fleet/places/a", "?")))), ())

    def test_facts(self):
        self.same(self.found("place a 1 a=x b=x c=x d=x")[0][2], tuple((name, "x") for name in "abcd"))
        self.same(self.found("place a 1 x=x")[0][2], (("x", "x"),))

    def test_wrong_lines(self):
        lines = (
            "place", "place b", "place b 0", "place b 10", "place b x", "place B 1", "place b 1 a", "place b 1 a=",
            "place b 1 =x", "place b 1 =", "place b 1 a=x=y", "place b 1 a==x", "place b 1 b=x a=x",
            "place b 1 a=x a=x", "place b 1 a=x a=y", "place b 1 a=x b=x c=x d=x e=x", "place b 1 A=x",
            "place b 1 a=X", "place b 1 a = x", "place b 1 ", " place b 1", "place  b 1", "place b  1", " ",
            "Place b 1", "spot b 1", "b 1", "place 1 b", "place b a=x", "place b 01", "place b -1",
            "place a23456789012x 1", "place b 1 a=a23456789012x", "place b/c 1", "place b 1 a=x,b=y",
        )
        for line in lines:
            self.wrong(1, line)
            self.wrong(3, "place a 1", "", line, "?")

    def test_a_name_twice(self):
        self.wrong(2, "place a 1", "place a 1")
        self.wrong(4, "place a 1", "place b 1", "", "place a 2 x=y")

    def test_twelve_lines(self):
        lines = [f"place a{number} 1" for number in range(13)]
        self.assertEqual(len(self.found(*lines[:12])), 12)
        self.assertEqual(len(self.found("", *lines[:12], "", "")), 12)
        self.wrong(13, *lines)
        self.wrong(14, "", *lines)

    def test_wrong_arguments(self):
        for value in ODD + [(), []]:
            self.bad_value(1, places, value)


class CheckTest(Asking, unittest.TestCase):

    def test_right(self):
        self.assertIsNone(check(Tree()))
        self.assertIsNone(check(tree=Tree((("app/main", "? ?  ?\n "), ("z", " ")))))
        tree = Tree((
            ("app/main", "run"),
            ("build/all", "target out = cat file app/main set color\ntest fine = has dep out lit run\n"),
            ("fleet/places", "place a 1 land=fr\n"),
            ("own/rules", "own all/ 1 ann\n"),
            ("pack/goals", "need p 1 9\n"),
            ("set/all", "color = red\n"),
        ))
        self.assertIsNone(check(tree))

    def test_each_kind_of_file(self):
        for path in KINDS + ("build/a/b/c", "set/a/b/c"):
            for content, at in (("?", 1), ("?\n", 1), ("\n?", 2), ("\n\n?\n?", 3), (" ", 1), ("\n \n", 2)):
                self.same(check(Tree(((path, content),))), (path, at))
            for content in ("", "\n", "\n\n"):
                self.assertIsNone(check(Tree(((path, content),))))

    def test_several_wrong_files(self):
        for first in range(len(KINDS)):
            for last in range(first + 1, len(KINDS) + 1):
                tree = Tree(tuple((path, "\n?") for path in KINDS[first:last]))
                self.same(check(tree), (KINDS[first], 2))
        tree = Tree((("build/a", "\n\n?"), ("build/b", "?"), ("set/a", "?")))
        self.same(check(tree), ("build/a", 3))
        tree = Tree((("own/rules", ""), ("set/a", "\n\n?\n?"), ("set/b", "?")))
        self.same(check(tree), ("set/a", 3))

    def test_wrong_arguments(self):
        for value in ODD + [(), []]:
            self.bad_value(1, check, value)

    def test_the_least_of_what_the_functions_raise(self):
        chance = random.Random(17)
        texts = {
            "build/a": ("target a = line\n", "test b = line\n", "\n", "target c = dep a\n"),
            "build/b": ("target d = line\n", "test b = line\n", "\n", "target e = dep a\n"),
            "fleet/places": ("place a 1\n", "place b 2 x=y\n", "\n", "place c 0\n"),
            "pack/goals": ("need a 1 1\n", "need b 2 3\n", "\n", "need c 2 1\n"),
            "set/a": ("when a is b\n", "end\n", "\n", "a = b\n"),
            "set/b": ("when a is b\n", "end\n", "k += v\n", "drop a\n"),
        }
        for _ in range(500):
            tree = Tree(tuple(
                (path, "".join(chance.choice(lines) for _ in range(chance.randint(0, 3))))
                for path, lines in texts.items()
            ))
            raised = []
            for call in (lambda t: settled(t, ()), asked_facts, goals, rules, places):
                try:
                    call(tree)
                except BadFile as wrong:
                    raised.append((wrong.path, wrong.at))
            self.assertEqual(check(tree), min(raised) if raised else None)


if __name__ == "__main__":
    unittest.main()
