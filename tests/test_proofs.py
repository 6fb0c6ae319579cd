"""Traces that hold, and papers: points 6, 42, 72 and 73."""

import copy
import random
import unittest

from releasehouse.building import built, traces
from releasehouse.errors import NoSolution
from releasehouse.proofs import is_reading, paper_holds, trace_holds
from releasehouse.trees import Tree, edited

from helpers import ODD, Asking, listed, one_file
from reference import FACTS, REGISTRY, holds, tree_of, tuples

FILES = (
    ("app/a", "run"),
    ("app/b", "ok\n"),
    ("build/all", "target out = cat file app/a cat names app cat pack lib cat version lib set k\n"
     "target raw = each app\ntarget ill = file gone\ntest fine = if dep raw has dep out lit run dep ill\n"
     "test twice = same file app/b file app/b\n"),
    ("pack/goals", "need lib 1 9\n"),
    ("set/all", "k = a b\n"),
)
TREE = Tree(FILES)
READING_WORDS = ("file", "each", "names", "pack", "version", "set", "dep")
# What may stand in the place of something in a trace or a paper.
SPARE = tuple(ODD) + (
    (), [], "run", "ok", "app", "app/a", "app/b", "made", "bad", "long", "version", "lit", "line", "not", 2, 9, 10,
    ("made", "ok"), ("made", ""), ("bad", "file"), ("bad", "long"), ("a", "b"), ["k"], ("file", "app/a", "run"),
) + READING_WORDS


def at_random(chance, value):
    """Return the value, bent at one place at random."""
    if not isinstance(value, (list, tuple)) or not value or chance.random() < 0.15:
        return chance.choice(SPARE)
    parts = list(value)
    at = chance.randrange(len(parts))
    way = chance.choice(("in", "in", "in", "drop", "double", "swap", "put", "list"))
    if way == "in":
        parts[at] = at_random(chance, parts[at])
    elif way == "drop":
        parts.pop(at)
    elif way == "double":
        parts.insert(at, parts[at])
    elif way == "swap":
        other = chance.randrange(len(parts))
        parts[at], parts[other] = parts[other], parts[at]
    elif way == "put":
        parts.insert(at, chance.choice(SPARE))
    else:
        return parts
    return tuple(parts)


def reading(word, name, value, result):
    """Return a trace of one expression that does one reading."""
    return ((word, name), ((word, name, value),), result)


class TraceHoldsTest(Asking, unittest.TestCase):

    def holds(self, *given):
        for trace in given:
            for value in (trace, listed(trace), tuples(trace)):
                self.assertIs(trace_holds(value), True, value)

    def fails(self, *given):
        for trace in given:
            for value in (trace, listed(trace)):
                self.assertIs(trace_holds(value), False, value)

    def test_traces_of_trees(self):
        chance = random.Random(42)
        for _ in range(100):
            tree = tree_of(chance)
            for _, trace in traces(tree, chance.choice(FACTS), REGISTRY):
                self.holds(trace)
        self.assertIs(trace_holds(trace=(("line",), (), ("made", "\n"))), True)

    def test_every_value_that_a_reading_can_have(self):
        self.holds(
            reading("file", "a", None, ("bad", "file")), reading("file", "a", "", ("made", "")),
            reading("file", "a", "x" * 1000, ("made", "x" * 1000)), reading("file", "a", "~\n", ("made", "~\n")),
            reading("pack", "a", None, ("bad", "pack")), reading("pack", "a", "b", ("made", "b")),
            reading("version", "a", None, ("bad", "pack")), reading("version", "a", 1, ("made", "1")),
            reading("version", "a", 9, ("made", "9")),
            reading("set", "a", None, ("made", "")), reading("set", "a", ("b",), ("made", "b")),
            reading("set", "a", ("b", "b", "a"), ("made", "b b a")),
            reading("each", "a", (), ("made", "")), reading("each", "a", (("a/b", "x"),), ("made", "x")),
            reading("each", "a", (("a/b", "x"), ("a/b/c", ""), ("a/c", "y")), ("made", "xy")),
            reading("names", "a", (), ("made", "")), reading("names", "a", ("a/b", "a/c/d"), ("made", "a/b a/c/d")),
            reading("dep", "a", ("made", "b"), ("made", "b")), reading("dep", "a", ("made", ""), ("made", "")),
            reading("dep", "a", ("made", "~\n" * 2500), ("made", "~\n" * 2500)),
            *[reading("dep", "a", ("bad", word), ("bad", "dep")) for word in ("file", "pack", "dep", "long")],
        )

    def test_values_that_a_reading_can_not_have(self):
        made = ("made", "")
        for word in READING_WORDS:
            for value in ODD + ["x\t", chr(37), chr(233)]:
                for result in (made, ("bad", "dep"), ("made", value)):
                    trace = reading(word, "a", value, result)
                    self.assertIs(trace_holds(trace), holds(trace), trace)
        self.fails(
            reading("file", "a", "x" * 1001, ("made", "x" * 1001)), reading("file", "a", ("b",), ("made", "b")),
            reading("pack", "a", "x" * 1001, ("made", "x" * 1001)), reading("pack", "a", chr(37), ("made", chr(37))),
            reading("version", "a", 0, ("made", "0")), reading("version", "a", 10, ("made", "10")),
            reading("version", "a", True, ("made", "1")), reading("version", "a", True, ("made", "True")),
            reading("version", "a", "1", ("made", "1")), reading("version", "a", -1, ("made", "-1")),
            reading("set", "a", (), made), reading("set", "a", ("B",), ("made", "B")),
            reading("set", "a", ("b", ""), ("made", "b ")), reading("set", "a", "b", ("made", "b")),
            reading("set", "a", ("b", None), ("made", "b")), reading("set", "a", ("b c",), ("made", "b c")),
            reading("each", "a", None, made), reading("each", "a", (("a", "x"),), ("made", "x")),
            reading("each", "a", (("ab/c", "x"),), ("made", "x")), reading("each", "a", (("a/", "x"),), ("made", "x")),
            reading("each", "a", (("a/b/c/d/e", "x"),), ("made", "x")),
            reading("each", "a", (("a/c", "x"), ("a/b", "y")), ("made", "xy")),
            reading("each", "a", (("a/b", "x"), ("a/b", "x")), ("made", "xx")),
            reading("each", "a", (("a/b", "x" * 1001),), ("made", "x" * 1001)),
            reading("each", "a", (("a/b", None),), made), reading("each", "a", (("a/b",),), made),
            reading("each", "a", (("a/b", "x", "y"),), ("made", "x")), reading("each", "a", ("a/b",), made),
            reading("names", "a", None, made), reading("names", "a", ("a",), ("made", "a")),
            reading("names", "a", ("a/c", "a/b"), ("made", "a/c a/b")), reading("names", "a", "a/b", ("made", "a/b")),
            reading("names", "a", ("a/b", "a/b"), ("made", "a/b a/b")),
            reading("names", "a", ("ab/c",), ("made", "ab/c")), reading("names", "a", ("a/B",), ("made", "a/B")),
            reading("dep", "a", None, ("bad", "dep")), reading("dep", "a", ("bad", "set"), ("bad", "dep")),
            reading("dep", "a", ("made", "x" * 5001), ("made", "x" * 5001)),
            reading("dep", "a", ("made", "x" * 5001), ("bad", "long")),
            reading("dep", "a", ("made", chr(37)), ("made", chr(37))),
            reading("dep", "a", ("made", "\t"), ("made", "\t")),
            reading("dep", "a", ("bad", "ok"), ("bad", "dep")), reading("dep", "a", ("made", None), ("made", None)),
            reading("dep", "a", ("made", "b", "c"), ("made", "b")), reading("dep", "a", ("made",), ("made", "")),
        )

    def test_words_that_do_not_read(self):
        for word in ("lit", "line", "cat", "if", "x", "", None, True, ("file",)):
            self.assertFalse(is_reading((word, "a", None)))
            self.assertFalse(is_reading((word, "a", "x")))
            self.fails((("lit", "a"), ((word, "a", "a"),), ("made", "a")))

    def test_more_files_than_a_tree_has(self):
        paths = [f"a/b{at}" for at in range(10, 80)]
        self.holds(reading("names", "a", tuple(paths), ("made", " ".join(paths))))
        self.holds(reading("each", "a", tuple((path, "x") for path in paths), ("made", "x" * 70)))

    def test_long_texts(self):
        pairs = tuple((f"a/b{at}", "x" * 1000) for at in range(5))
        self.holds(reading("each", "a", pairs, ("made", "x" * 5000)))
        self.fails(reading("each", "a", pairs, ("bad", "long")))
        pairs += (("a/c", "y"),)
        self.holds(reading("each", "a", pairs, ("bad", "long")))
        self.fails(reading("each", "a", pairs, ("made", "x" * 5000 + "y")))

    def test_bent_results(self):
        self.holds((("lit", "x"), (), ("made", "x")))
        self.fails(
            (("lit", "x"), (), ("made", "y")), (("lit", "x"), (), ("bad", "x")), (("lit", "x"), (), ("made",)),
            (("lit", "x"), (), ("made", "x", "x")), (("lit", "x"), (), "x"), (("lit", "x"), (), None),
            reading("file", "a", None, ("bad", "pack")), reading("file", "a", None, ("made", "")),
            reading("pack", "a", None, ("bad", "file")), reading("version", "a", None, ("bad", "version")),
            reading("dep", "a", ("bad", "file"), ("bad", "file")), reading("version", "a", 1, ("made", 1)),
        )

    def test_bent_expressions(self):
        long = tuple(("not " * 60 + "line").split())
        for expression in ((), ("lit",), ("line", "line"), ("none",), ("lit", "a b"), "line", long):
            self.fails((expression, (), ("made", "\n")))
        self.holds((("not " * 59 + "line").split(), (), ("made", "")))
        self.fails((("file", "A"), (("file", "A", "x"),), ("made", "x")))
        self.fails((("up", "file", "a"), (("file", "a", "x"),), ("made", "x")))
        self.holds((("up", "file", "a"), (("file", "a", "x"),), ("made", "X")))

    def test_bent_readings(self):
        both = ("cat", "file", "a", "file", "b")
        a = ("file", "a", "x")
        b = ("file", "b", "y")
        made = ("made", "xy")
        self.holds((both, (a, b), made))
        self.fails(
            (both, (b, a), made), (both, (a,), made), (both, (b,), made), (both, (), made), (both, (a, b, b), made),
            (both, (a, a, b), made), (both, (a, b, ("file", "c", "z")), made), (both, (("lit", "x", "x"), a, b), made),
            (both, (("pack", "a", "x"), b), made), (both, (("file", "c", "x"), b), made), (both, (a[:2], b), made),
            (both, (a + ("x",), b), made), (both, None, made), (both, "", made), (both, (None, b), made),
            (both, (a, ("file", "b", "z")), made), (both, ((["file"], "a", "x"), b), made),
            (both, (("file", ["a"], "x"), b), made), (both, ((None, None, None), b), made),
            (both, ((True, "a", "x"), b), made), (both, (("file", None, "x"), b), made),
            (both, (a, b, ("names", None, ("a/b",))), made), (both, (a, b, ("each", 1, (("a/b", "x"),))), made),
        )
        twice = ("cat", "file", "a", "file", "a")
        self.holds((twice, (a, a), ("made", "xx")))
        other = ("file", "a", "y")
        none = ("file", "a", None)
        for pair in ((a, other), (other, a), (a, none), (none, a)):
            for result in (("made", "xx"), ("made", "xy"), ("made", "yx"), ("made", "yy"), ("bad", "file")):
                self.fails((twice, pair, result))

    def test_just_the_readings_that_are_done(self):
        way = ("if", "file", "a", "file", "b", "file", "c")
        a = ("file", "a", "x")
        b = ("file", "b", "y")
        self.holds((way, (a, b), ("made", "y")), (way, (("file", "a", ""), ("file", "c", None)), ("bad", "file")))
        self.fails(
            (way, (a, b, ("file", "c", "z")), ("made", "y")), (way, (a, ("file", "c", "z")), ("made", "z")),
            (way, (("file", "a", ""), b), ("made", "y")), (way, (("file", "a", None), b), ("made", "y")),
        )
        self.holds((("cat", "file", "a", "file", "b"), (("file", "a", None),), ("bad", "file")))
        self.fails((("cat", "file", "a", "file", "b"), (("file", "a", None), b), ("bad", "file")))
        # What a reading that is lacking would read makes no trace of it.
        lacking = {"file": ("bad", "file"), "set": ("made", ""), "each": ("made", ""), "dep": ("bad", "dep")}
        for word, result in lacking.items():
            self.fails(((word, "a"), (), result))

    def test_odd_values(self):
        for value in ODD + [(), []]:
            self.assertIs(trace_holds(value), False, value)
            for at in range(3):
                trace = [("lit", "x"), (), ("made", "x")]
                trace[at] = value
                self.assertIs(trace_holds(trace), at == 1 and value in ((), []), trace)
        self.fails(("line", "line", "line"), ((), (), ()), ("pick", "a", ()))

    def test_traces_that_are_bent_at_random(self):
        chance = random.Random(420)
        right = 0
        for _ in range(150):
            tree = tree_of(chance)
            for _, trace in traces(tree, chance.choice(FACTS), REGISTRY):
                for _ in range(20):
                    value = at_random(chance, trace)
                    before = copy.deepcopy(value)
                    self.assertIs(trace_holds(value), holds(value), value)
                    self.assertEqual(repr(value), repr(before))
                    right += holds(value)
        self.assertGreater(right, 50)


class PaperHoldsTest(Asking, unittest.TestCase):

    def test_the_paper_of_traces(self):
        paper = traces(TREE, (), REGISTRY)
        self.assertEqual([result[0] for _, (_, _, result) in paper], ["made", "made", "bad", "made", "made"])
        for value in (paper, listed(paper), list(paper), [list(entry) for entry in paper]):
            self.assertIs(paper_holds(TREE, (), REGISTRY, value), True)
        self.assertIs(paper_holds(tree=TREE, facts=[], registry=listed(REGISTRY), paper=paper), True)
        self.assertIs(paper_holds(Tree(), (), (), ()), True)
        self.assertIs(paper_holds(Tree(), (), (), []), True)

    def test_bent_papers(self):
        paper = traces(TREE, (), REGISTRY)
        wrong = [(), paper[:-1], paper[1:], paper + paper[-1:], paper[:1] + paper, tuple(reversed(paper))]
        for at in range(len(paper)):
            name, trace = paper[at]
            wrong.append(paper[:at] + paper[at + 1:])
            wrong.append(paper[:at] + (paper[at],) + paper[at:])
            entries = [
                ("other", trace), (None, trace), (name,), (name, trace, trace), trace, name, None, (trace, name),
                (name, trace[:2]), (name, (trace[0], trace[1], ("made", "bent"))), (name, (trace[0], (), trace[2])),
                (name, (("lit", "x"), (), ("made", "x"))), (name, paper[at - 1][1]), paper[at - 1], ([name], trace),
            ]
            wrong += [paper[:at] + (entry,) + paper[at + 1:] for entry in entries]
            for other in range(at):
                exchanged = list(paper)
                exchanged[at], exchanged[other] = exchanged[other], exchanged[at]
                wrong.append(exchanged)
        for value in wrong:
            self.assertIs(paper_holds(TREE, (), REGISTRY, value), False, value)
            self.assertIs(paper_holds(TREE, (), REGISTRY, listed(value)), False, value)
        self.assertIs(paper_holds(Tree(), (), (), paper), False)

    def test_traces_that_hold_but_are_of_something_else(self):
        paper = traces(TREE, (), REGISTRY)
        edits = (
            ("put", "app/a", "runs"), ("put", "app/b", ""), ("drop", "app/a"), ("put", "app/c", ""),
            ("put", "gone", "x"),
            ("put", "pack/goals", "need lib 1 1\n"), ("put", "pack/goals", ""), ("put", "set/all", "k = a\n"),
            ("drop", "set/all"), ("put", "set/b", "k += c\n"),
        )
        for edit in edits:
            other = edited(TREE, (edit,))
            self.assertIs(paper_holds(other, (), REGISTRY, paper), False, edit)
            theirs = traces(other, (), REGISTRY)
            self.assertIs(paper_holds(TREE, (), REGISTRY, theirs), False, edit)
            self.assertIs(paper_holds(other, (), REGISTRY, theirs), True, edit)
        other = edited(TREE, (("put", "doc", "x"), ("put", "set/b", "when land is fr\nk = c\nend\n")))
        self.assertIs(paper_holds(other, (), REGISTRY, paper), True)
        self.assertIs(paper_holds(other, (("land", "de"),), REGISTRY, paper), True)
        self.assertIs(paper_holds(other, (("land", "fr"),), REGISTRY, paper), False)
        self.assertIs(paper_holds(TREE, (), REGISTRY[:1] + REGISTRY[2:], paper), False)

    def test_a_result_that_deps_do_not_agree_on(self):
        tree = one_file("build/all", "target a = file x", "target b = dep a")
        a = ("a", reading("file", "x", None, ("bad", "file")))
        b = ("b", reading("dep", "a", ("bad", "file"), ("bad", "dep")))
        self.assertIs(paper_holds(tree, (), (), (a, b)), True)
        lie = ("b", reading("dep", "a", ("made", "x"), ("made", "x")))
        self.assertIs(paper_holds(tree, (), (), (a, lie)), False)
        told = ("a", reading("file", "x", "x", ("made", "x")))
        self.assertIs(paper_holds(tree, (), (), (told, lie)), False)
        self.assertIs(paper_holds(Tree(tree.files + (("x", "x"),)), (), (), (told, lie)), True)
        self.assertIs(paper_holds(Tree(tree.files + (("x", "x"),)), (), (), (told, b)), False)

    def test_names_with_one_expression(self):
        tree = one_file("build/all", "target a = line", "target b = line")
        trace = (("line",), (), ("made", "\n"))
        self.assertIs(paper_holds(tree, (), (), (("a", trace), ("b", trace))), True)
        self.assertIs(paper_holds(tree, (), (), (("b", trace), ("a", trace))), False)
        self.assertIs(paper_holds(tree, (), (), (("a", trace), ("a", trace))), False)
        self.assertIs(paper_holds(tree, (), (), (("a", trace),)), False)

    def test_odd_values(self):
        for value in ODD:
            self.assertIs(paper_holds(TREE, (), REGISTRY, value), False)
            self.assertIs(paper_holds(Tree(), (), (), value), False)
            self.assertIs(paper_holds(one_file("build/all", "target a = line"), (), (), (value,)), False)
            self.assertIs(paper_holds(one_file("build/all", "target a = line"), (), (), [("a", value)]), False)

    def test_papers_that_are_bent_at_random(self):
        chance = random.Random(73)
        right = 0
        for _ in range(150):
            tree = tree_of(chance)
            facts = chance.choice(FACTS)
            paper = traces(tree, facts, REGISTRY)
            self.assertIs(paper_holds(tree, facts, REGISTRY, paper), True)
            self.assertEqual(tuple((name, trace[2]) for name, trace in paper), built(tree, facts, REGISTRY))
            for _ in range(20):
                value = at_random(chance, paper)
                wanted = isinstance(value, (list, tuple)) and repr(tuples(value)) == repr(paper)
                before = copy.deepcopy(value)
                self.assertIs(paper_holds(tree, facts, REGISTRY, value), wanted, value)
                self.assertEqual(repr(value), repr(before))
                right += wanted
        self.assertGreater(right, 20)

    def test_wrong_arguments(self):
        for value in ODD + [(), []]:
            self.bad_value(1, paper_holds, value, None, None, None)
            if value != () and value != []:
                self.bad_value(2, paper_holds, TREE, value, None, ())
                self.bad_value(3, paper_holds, one_file("set/a", "?"), (), value, ())

    def test_wrong_files_and_no_solution(self):
        tree = Tree((("build/a", "\n?"), ("pack/goals", "?"), ("set/a", "?")))
        self.bad_file("build/a", 2, paper_holds, tree, (), (), None)
        self.bad_file("pack/goals", 1, paper_holds, Tree(tree.files[1:]), (), (), None)
        self.bad_file("set/a", 1, paper_holds, Tree((("own/rules", "?"), ("set/a", "?"))), (), (), ())
        tree = Tree((("pack/goals", "need a 1 1"), ("set/a", "?")))
        self.bad_file("set/a", 1, paper_holds, tree, (), (), None)
        with self.assertRaises(NoSolution) as caught:
            paper_holds(one_file("pack/goals", "need a 1 1"), (), (), None)
        self.same(caught.exception.paper, ("pick", "a", ()))


if __name__ == "__main__":
    unittest.main()
