"""What is read, and what comes of looking at expressions: points 38 and 39."""

import random
import unittest

from releasehouse.building import traces
from releasehouse.files import check
from releasehouse.looking import is_result
from releasehouse.trees import Tree

from helpers import ODD, Asking
from reference import FACTS, REGISTRY, all_traces, expression_of, tree_of

# Targets that the tests look at as their deps.
AHEAD = ("target good = lit Text", "target none = cat lit x line", "target ill = file gone", "target worse = dep ill")
PACKS = (
    ("lib", 2, (("tool", 1, 9),), "lib two"),
    ("tool", 1, (), "old"),
    ("tool", 3, (), "new\n"),
    ("zoo", 1, (), "z"),
)
FILES = {
    "app": "App", "app/a": "a1\n", "app/a/b": "ab", "app/b": "Z", "app0/a": "no", "doc": "", "long/a": "x" * 1000,
    "pack/goals": "need lib 1 9\n", "set/all": "color = red blue\nhue = red\nwhen land is fr\nhue += green\nend\n",
}
LONG = {f"long/b{number}": "y" * 1000 for number in range(4)}


def tree_with(text, files):
    """Return a tree with a target out of this expression behind the ones ahead."""
    rules = "\n".join(AHEAD + ("target out = " + text,))
    return Tree(tuple(sorted({**FILES, **files, "build/all": rules}.items())))


class LookingTest(Asking, unittest.TestCase):

    def looks(self, text, readings, result, files=(), facts=()):
        """The last target has these readings and this result."""
        tree = tree_with(text, dict(files))
        self.assertIsNone(check(tree))
        name, trace = traces(tree, facts, PACKS)[-1]
        self.same((name, trace), ("out", (tuple(text.split(" ")), tuple(readings), result)))

    def makes(self, text, made, files=()):
        """The last target has this text, and does no reading."""
        self.looks(text, (), ("made", made), files)

    def test_file(self):
        self.looks("file app", [("file", "app", "App")], ("made", "App"))
        self.looks("file app/a", [("file", "app/a", "a1\n")], ("made", "a1\n"))
        self.looks("file doc", [("file", "doc", "")], ("made", ""))
        self.looks("file gone", [("file", "gone", None)], ("bad", "file"))
        self.looks("file app/c", [("file", "app/c", None)], ("bad", "file"))

    def test_each(self):
        pairs = (("app/a", "a1\n"), ("app/a/b", "ab"), ("app/b", "Z"))
        self.looks("each app", [("each", "app", pairs)], ("made", "a1\nabZ"))
        self.looks("each app/a", [("each", "app/a", pairs[1:2])], ("made", "ab"))
        self.looks("each gone", [("each", "gone", ())], ("made", ""))
        self.looks("each doc", [("each", "doc", ())], ("made", ""))

    def test_names(self):
        self.looks("names app", [("names", "app", ("app/a", "app/a/b", "app/b"))], ("made", "app/a app/a/b app/b"))
        self.looks("names app/a", [("names", "app/a", ("app/a/b",))], ("made", "app/a/b"))
        self.looks("names gone", [("names", "gone", ())], ("made", ""))

    def test_pack(self):
        self.looks("pack lib", [("pack", "lib", "lib two")], ("made", "lib two"))
        self.looks("pack tool", [("pack", "tool", "new\n")], ("made", "new\n"))
        # Known to the registry, but not in the solution.
        self.looks("pack zoo", [("pack", "zoo", None)], ("bad", "pack"))
        self.looks("pack gone", [("pack", "gone", None)], ("bad", "pack"))

    def test_version(self):
        self.looks("version lib", [("version", "lib", 2)], ("made", "2"))
        self.looks("version tool", [("version", "tool", 3)], ("made", "3"))
        self.looks("version zoo", [("version", "zoo", None)], ("bad", "pack"))

    def test_set(self):
        self.looks("set color", [("set", "color", ("red", "blue"))], ("made", "red blue"))
        self.looks("set hue", [("set", "hue", ("red",))], ("made", "red"))
        facts = [["kind", "shop"], ["land", "fr"]]
        self.looks("set hue", [("set", "hue", ("red", "green"))], ("made", "red green"), facts=facts)
        self.looks("set gone", [("set", "gone", None)], ("made", ""))

    def test_lit_and_line(self):
        self.makes("lit x", "x")
        self.makes("lit lit", "lit")
        self.makes("lit =|~", "=|~")
        self.makes("lit " + "x" * 40, "x" * 40)
        self.makes("line", "\n")

    def test_dep(self):
        self.looks("dep good", [("dep", "good", ("made", "Text"))], ("made", "Text"))
        self.looks("dep none", [("dep", "none", ("made", "x\n"))], ("made", "x\n"))
        self.looks("dep ill", [("dep", "ill", ("bad", "file"))], ("bad", "dep"))
        self.looks("dep worse", [("dep", "worse", ("bad", "dep"))], ("bad", "dep"))

    def test_cat(self):
        self.makes("cat lit a lit b", "ab")
        self.makes("cat cat lit a lit b cat line lit c", "ab\nc")
        readings = [("file", "app", "App"), ("set", "hue", ("red",)), ("file", "app", "App")]
        self.looks("cat file app cat set hue file app", readings, ("made", "AppredApp"))

    def test_up(self):
        self.makes("up lit aZ0~z{`@", "AZ0~Z{`@")
        self.looks("up file app", [("file", "app", "App")], ("made", "APP"))
        self.makes("up line", "\n")

    def test_size(self):
        self.makes("size lit abc", "3")
        self.makes("size line", "1")
        self.makes("size not line", "0")
        self.makes("size lit " + "x" * 40, "40")
        self.looks("size file app/a", [("file", "app/a", "a1\n")], ("made", "3"))

    def test_has(self):
        self.makes("has lit abc lit b", "ok")
        self.makes("has lit abc lit abc", "ok")
        self.makes("has lit abc lit ac", "")
        self.makes("has lit b lit abc", "")
        self.makes("has lit abc lit B", "")
        self.makes("has lit abc not line", "ok")
        self.makes("has not line not line", "ok")
        self.makes("has not line lit a", "")
        readings = [("file", "app", "App"), ("dep", "good", ("made", "Text"))]
        self.looks("has file app dep good", readings, ("made", ""))

    def test_same(self):
        self.makes("same lit a lit a", "ok")
        self.makes("same lit a lit A", "")
        self.makes("same lit ab lit a", "")
        self.makes("same not line not line", "ok")
        readings = [("pack", "tool", "new\n"), ("version", "tool", 3)]
        self.looks("same pack tool version tool", readings, ("made", ""))

    def test_not(self):
        self.makes("not lit a", "")
        self.makes("not line", "")
        self.makes("not not lit a", "ok")
        self.looks("not set gone", [("set", "gone", None)], ("made", "ok"))
        self.looks("not file app", [("file", "app", "App")], ("made", ""))

    def test_if(self):
        self.looks("if lit x file app file app/b", [("file", "app", "App")], ("made", "App"))
        self.looks("if not lit x file app file app/b", [("file", "app/b", "Z")], ("made", "Z"))
        readings = [("file", "doc", ""), ("file", "app/b", "Z")]
        self.looks("if file doc file app file app/b", readings, ("made", "Z"))
        readings = [("set", "hue", ("red",)), ("file", "app", "App")]
        self.looks("if set hue file app file app/b", readings, ("made", "App"))
        # The way that is not looked at may be bad.
        self.makes("if line lit x file gone", "x")
        self.makes("if not line dep ill lit y", "y")
        self.looks("if line file gone lit y", [("file", "gone", None)], ("bad", "file"))
        self.looks("if file gone lit x lit y", [("file", "gone", None)], ("bad", "file"))
        text = "if not line if line lit a lit b if not line lit c if line file app lit d"
        self.looks(text, [("file", "app", "App")], ("made", "App"))

    def test_each_time_it_is_done(self):
        reading = ("file", "app", "App")
        self.looks("same file app file app", [reading, reading], ("made", "ok"))
        self.looks("if file app cat file app file app lit x", [reading] * 3, ("made", "AppApp"))
        self.looks("cat " * 19 + "file doc " * 19 + "line", [("file", "doc", "")] * 19, ("made", "\n"))

    def test_what_is_bad_ends_the_looking(self):
        bad = {
            "file gone": (("file", "gone", None), "file"),
            "pack gone": (("pack", "gone", None), "pack"),
            "version gone": (("version", "gone", None), "pack"),
            "dep ill": (("dep", "ill", ("bad", "file")), "dep"),
        }
        for text, (reading, word) in bad.items():
            for sign in ("up", "size", "not"):
                self.looks(f"{sign} {text}", [reading], ("bad", word))
            for sign in ("cat", "has", "same"):
                self.looks(f"{sign} {text} file app", [reading], ("bad", word))
                self.looks(f"{sign} {text} file none", [reading], ("bad", word))
                self.looks(f"{sign} file app {text}", [("file", "app", "App"), reading], ("bad", word))
                self.looks(f"{sign} lit x {text}", [reading], ("bad", word))
            self.looks(f"if {text} file app file app", [reading], ("bad", word))
            self.looks(f"if line {text} file app", [reading], ("bad", word))
            self.looks(f"cat cat {text} file app file app", [reading], ("bad", word))

    def test_five_thousand_signs(self):
        pairs = tuple(sorted({**LONG, "long/a": "x" * 1000}.items()))
        whole = "x" * 1000 + "y" * 4000
        reading = ("each", "long", pairs)
        self.looks("each long", [reading], ("made", whole), LONG)
        self.looks("size each long", [reading], ("made", "5000"), LONG)
        self.looks("cat each long not line", [reading], ("made", whole), LONG)
        self.looks("cat each long lit a", [reading], ("bad", "long"), LONG)
        self.looks("cat lit a each long", [reading], ("bad", "long"), LONG)
        self.looks("cat each long cat line file gone", [reading, ("file", "gone", None)], ("bad", "file"), LONG)
        more = {**LONG, "long/c": "z"}
        longer = ("each", "long", pairs + (("long/c", "z"),))
        self.looks("each long", [longer], ("bad", "long"), more)
        self.looks("size each long", [longer], ("bad", "long"), more)
        self.looks("cat each long file gone", [longer], ("bad", "long"), more)
        self.looks("if each long lit a lit b", [longer], ("bad", "long"), more)
        self.looks("if line lit a each long", [], ("made", "a"), more)
        # Half as long twice: long only where it is put together.
        half = {"half": "h" * 1000, "long/b0": "y" * 500}
        reading = ("each", "long", (("long/a", "x" * 1000), ("long/b0", "y" * 500)))
        text = "cat cat each long each long file half"
        whole = ("x" * 1000 + "y" * 500) * 2 + "h" * 1000
        self.looks(text, [reading, reading, ("file", "half", "h" * 1000)], ("made", whole), half)
        text = "cat cat each long each long cat each long file half"
        self.looks(text, [reading] * 3 + [("file", "half", "h" * 1000)], ("bad", "long"), half)

    def test_long_settings(self):
        # 13 signs for each word with its blank, but none behind the last one.
        words = ["w" * 12] * 384
        files = {f"set/b{at}": "hue += " + " ".join(words[at:at + 70]) for at in range(0, 384, 70)}
        self.looks("set hue", [("set", "hue", ("red",) + tuple(words))], ("made", " ".join(["red"] + words)), files)
        self.assertEqual(len(" ".join(["red"] + words)), 4995)
        files["set/c"] = "hue += abcd"
        items = ("red",) + tuple(words) + ("abcd",)
        self.looks("set hue", [("set", "hue", items)], ("made", " ".join(items)), files)
        files["set/c"] = "hue += abcde"
        items = ("red",) + tuple(words) + ("abcde",)
        self.looks("set hue", [("set", "hue", items)], ("bad", "long"), files)

    def test_long_deps(self):
        rules = "target a = cat each long lit a\ntarget b = dep a\ntarget c = each long\ntarget d = cat dep c lit x"
        tree = Tree(tuple(sorted({**LONG, "build/a": rules, "long/a": "x" * 1000}.items())))
        whole = ("made", "x" * 1000 + "y" * 4000)
        found = dict(traces(tree, (), ()))
        self.same(found["b"], (("dep", "a"), (("dep", "a", ("bad", "long")),), ("bad", "dep")))
        self.same(found["d"], (("cat", "dep", "c", "lit", "x"), (("dep", "c", whole),), ("bad", "long")))

    def test_deep_expressions(self):
        self.makes("not " * 59 + "line", "")
        self.makes("up " + "cat line " * 29 + "line", "\n" * 30)
        self.makes("if line " * 19 + "lit a" + " line" * 19, "a")

    def test_random_expressions(self):
        chance = random.Random(39)
        met = {}
        for _ in range(800):
            tree = tree_of(chance)
            facts = chance.choice(FACTS)
            found = traces(tree, facts, REGISTRY)
            self.same(found, all_traces(tree, facts, REGISTRY))
            for _, trace in found:
                met[trace[2][0] == "made" or trace[2]] = True
        self.assertEqual(set(met), {True, ("bad", "file"), ("bad", "pack"), ("bad", "dep")})

    def test_random_large_expressions(self):
        chance = random.Random(40)
        files = {**LONG, "app/a": "Run", "app/b": "x" * 1000, "app": "", "build/all": ""}
        for _ in range(300):
            parts = expression_of(chance, (), 5)
            if len(parts) <= 60:
                files["build/all"] = "target a = " + " ".join(part.replace("doc", "long") for part in parts)
                tree = Tree(tuple(sorted(files.items())))
                self.same(traces(tree, (), ()), all_traces(tree, (), ()))


class ResultsTest(unittest.TestCase):

    def test_results(self):
        for value in (("made", ""), ["made", "a\n~"], ("made", "x" * 5000), ("bad", "file"), ["bad", "long"]):
            self.assertTrue(is_result(value), value)
        wrong = (
            ("made", "x" * 5001), ("made", None), ("made", chr(37)), ("made", "\t"), ("made",), ("made", "a", "b"),
            ("bad", "set"), ("bad", "ok"), ("bad", None), ("bad", ["file"]), ("made", ["a"]), ("Made", "a"),
            ("good", "a"), ("good", "file"), "made", ("bad", ""), (None, "a"), (["made"], "a"),
        )
        for value in wrong:
            self.assertFalse(is_result(value), value)
        for value in ODD + [(), []]:
            self.assertFalse(is_result(value), value)


if __name__ == "__main__":
    unittest.main()
