"""Building: points 3, 4, 12, 40, 41 and 43 to 49."""

import copy
import random
import unittest

from releasehouse.building import built, failing, rebuilt, traces
from releasehouse.errors import NoSolution
from releasehouse.files import asked_facts, goals, rules
from releasehouse.packages import refutes
from releasehouse.trees import Tree, edited

from helpers import ODD, Asking, listed, one_file, plain_only
from reference import FACTS, REGISTRY, all_traces, holds, tree_of, tuples

DOC_TREE = Tree((
    ("app/main", "run"),
    ("build/all", "target out = cat file app/main set color\ntest fine = has dep out lit run\n"),
    ("set/all", "color = red\n"),
))
OUT = (
    ("cat", "file", "app/main", "set", "color"),
    (("file", "app/main", "run"), ("set", "color", ("red",))),
    ("made", "runred"),
)
FINE = (("has", "dep", "out", "lit", "run"), (("dep", "out", ("made", "runred")),), ("made", "ok"))
CALLS = (built, traces, failing, lambda tree, facts, registry: rebuilt(tree, facts, registry, ()))
PACKS = (("a", 1, (), "one"), ("a", 2, (("b", 2, 2),), "two"), ("b", 1, (), "three"))


def build(*lines):
    return one_file("build/all", *lines)


def bent(chance, trace):
    """Return a trace that differs from this one in one place."""
    expression, readings, result = trace
    word = chance.choice(("expression", "readings", "result", "short"))
    if word == "expression":
        return (("up",) + expression, readings, result)
    if word == "readings":
        return (expression, readings + (("file", "app", "bent"),), result)
    if word == "result":
        return (expression, readings, ("made", "bent"))
    return (expression, readings)


def store_of(chance, pairs):
    """Return a random store of these traces, bent ones, and what is no trace."""
    store = []
    for _, trace in pairs:
        for _ in range(chance.randint(0, 2)):
            store.append(chance.choice((trace, listed(trace), bent(chance, trace), chance.choice(ODD))))
    chance.shuffle(store)
    return chance.choice((tuple, list))(store)


class BuiltTest(Asking, unittest.TestCase):

    def test_example_of_the_document(self):
        self.same(built(DOC_TREE, (), ()), (("out", ("made", "runred")), ("fine", ("made", "ok"))))
        self.same(built(tree=DOC_TREE, facts=[], registry=[]), built(DOC_TREE, (), ()))

    def test_nothing_to_build(self):
        for tree in (Tree(), build(), build("", ""), Tree((("app", "?"), ("own/rules", "?")))):
            self.same(built(tree, (), ()), ())
            self.same(traces(tree, (), ()), ())
            self.same(failing(tree, (), ()), ())
            self.same(rebuilt(tree, (), (), ()), ((), (), ()))

    def test_in_the_order_of_the_row(self):
        tree = Tree((
            ("build/a", "target z = lit z\ntest y = dep z"),
            ("build/a/b", "target x = dep z\n"),
            ("build/b", "\ntarget a = cat dep x dep z\ntest b = same dep a dep x"),
        ))
        wanted = (("z", "z"), ("y", "z"), ("x", "z"), ("a", "zz"), ("b", ""))
        self.same(built(tree, (), ()), tuple((name, ("made", text)) for name, text in wanted))

    def test_forty_rules(self):
        lines = ["target a0 = lit x"] + [f"target a{at} = cat dep a{at - 1} lit x" for at in range(1, 40)]
        tree = Tree((("build/a", "\n".join(lines[:20])), ("build/b", "\n".join(lines[20:]))))
        self.same(built(tree, (), ()), tuple((f"a{at}", ("made", "x" * (at + 1))) for at in range(40)))
        self.same(rebuilt(tree, (), (), ())[1], tuple(f"a{at}" for at in range(40)))
        for call in CALLS:
            self.bad_file("build/c", 2, call, edited(tree, (("put", "build/c", "\ntarget b = line"),)), (), ())

    def test_facts_and_packages(self):
        tree = Tree((
            ("build/all", "target out = cat set color cat pack a version b\n"),
            ("pack/goals", "need a 1 9\n"),
            ("set/all", "color = red\nwhen land is fr\ncolor += blue\nend\n"),
        ))
        self.same(built(tree, (), PACKS), (("out", ("bad", "pack")),))
        packs = PACKS + (("b", 2, (), "four"),)
        self.same(built(tree, (), packs), (("out", ("made", "redtwo2")),))
        self.same(built(tree, [["land", "fr"]], listed(packs)), (("out", ("made", "red bluetwo2")),))

    def test_the_best_solution(self):
        tree = Tree((("build/all", "target out = cat version a version b"), ("pack/goals", "need a 1 9\nneed b 1 9")))
        self.same(built(tree, (), PACKS), (("out", ("made", "11")),))
        self.same(built(tree, (), PACKS + (("b", 2, (), ""),)), (("out", ("made", "22")),))

    def test_traces(self):
        self.same(traces(DOC_TREE, (), ()), (("out", OUT), ("fine", FINE)))
        self.same(traces(tree=DOC_TREE, facts=(), registry=()), traces(DOC_TREE, (), ()))

    def test_of_random_trees(self):
        chance = random.Random(43)
        for _ in range(150):
            tree = tree_of(chance)
            facts = chance.choice(FACTS)
            pairs = traces(tree, facts, REGISTRY)
            self.same(pairs, all_traces(tree, facts, REGISTRY))
            self.same(built(tree, facts, REGISTRY), tuple((name, trace[2]) for name, trace in pairs))
            tests = [name for word, name, _ in rules(tree) if word == "test"]
            bad = tuple(name for name, trace in pairs if name in tests and trace[2] != ("made", "ok"))
            self.same(failing(tree, facts, REGISTRY), bad)
            self.assertTrue(plain_only(pairs))

    def test_facts_that_no_when_names(self):
        chance = random.Random(12)
        for _ in range(150):
            tree = tree_of(chance)
            facts = chance.choice(FACTS)
            named = tuple(pair for pair in facts if pair[0] in asked_facts(tree))
            more = tuple(sorted(named + (("zone", "x"),)))
            self.same(traces(tree, facts, REGISTRY), traces(tree, named, REGISTRY))
            self.same(traces(tree, facts, REGISTRY), traces(tree, more, REGISTRY))

    def test_the_same_readings_make_the_same_result(self):
        tree = edited(DOC_TREE, (("put", "app/other", "?"), ("put", "set/more", "hue = red\n")))
        self.same(traces(tree, (("land", "fr"),), PACKS), traces(DOC_TREE, (), ()))


class FailingTest(Asking, unittest.TestCase):

    def test_which_tests_pass(self):
        tree = Tree((
            ("app", "ok"),
            ("build/all", "\n".join((
                "test z = lit ok", "test a = lit ok2", "target b = lit no", "test c = not line", "test d = file gone",
                "test e = file app", "test f = lit OK", "test g = cat lit ok line", "test h = not not line",
                "target i = file gone", "test j = same dep b lit no", "test k = dep i",
            ))),
        ))
        self.same(failing(tree, (), ()), ("a", "c", "d", "f", "g", "k"))
        self.same(failing(tree=tree, facts=(), registry=()), failing(tree, (), ()))

    def test_none(self):
        self.same(failing(DOC_TREE, (), ()), ())
        self.same(failing(build("target a = file gone"), (), ()), ())


class RebuiltTest(Asking, unittest.TestCase):

    def test_an_empty_store(self):
        wanted = (built(DOC_TREE, (), ()), ("out", "fine"), (OUT, FINE))
        self.same(rebuilt(DOC_TREE, (), (), ()), wanted)
        self.same(rebuilt(tree=DOC_TREE, facts=(), registry=[], store=[]), wanted)

    def test_what_fits_is_not_fresh(self):
        for store in ((FINE, OUT), [listed(OUT), FINE], (listed(FINE), listed(OUT))):
            self.same(rebuilt(DOC_TREE, (), (), store), (built(DOC_TREE, (), ()), (), tuples(store)))
        self.same(rebuilt(DOC_TREE, (), (), [FINE])[1:], (("out",), (FINE, OUT)))
        self.same(rebuilt(DOC_TREE, (), (), [listed(OUT)])[1:], (("fine",), (OUT, FINE)))

    def test_traces_of_other_trees(self):
        new = edited(DOC_TREE, (("put", "app/main", "walk"),))
        store = rebuilt(DOC_TREE, (), (), ())[2]
        results, fresh, after = rebuilt(new, (), (), store)
        self.same(results, (("out", ("made", "walkred")), ("fine", ("made", ""))))
        self.same(fresh, ("out", "fine"))
        self.same(after, store + tuple(trace for _, trace in traces(new, (), ())))
        # The older traces are still there.
        self.same(rebuilt(DOC_TREE, (), (), after), (built(DOC_TREE, (), ()), (), after))
        # A source that only out reads, and that makes the same text of it.
        new = edited(DOC_TREE, (("put", "app/main", "ru"), ("put", "set/all", "color = nred\n")))
        self.same(rebuilt(new, (), (), store)[1], ("out",))

    def test_two_names_with_one_expression(self):
        tree = build("target a = lit x", "test b = lit x", "target c = lit y")
        x = (("lit", "x"), (), ("made", "x"))
        y = (("lit", "y"), (), ("made", "y"))
        self.same(rebuilt(tree, (), (), ())[1:], (("a", "b", "c"), (x, y)))
        self.same(rebuilt(tree, (), (), (y,))[1:], (("a", "b"), (y, x)))
        self.same(rebuilt(tree, (), (), (x,))[1:], (("c",), (x, y)))

    def test_each_once(self):
        store = (OUT, FINE, listed(OUT), OUT, listed(FINE))
        self.same(rebuilt(DOC_TREE, (), (), store)[1:], ((), (OUT, FINE)))
        self.same(rebuilt(Tree(), (), (), store)[1:], ((), (OUT, FINE)))

    def test_what_does_not_hold_counts_for_nothing(self):
        lies = (
            (OUT[0], OUT[1], ("made", "walkred")), (OUT[0], OUT[1], ("bad", "file")), (OUT[0], OUT[1][:1], OUT[2]),
            (OUT[0], (("file", "app/main", "run"), ("set", "color", ("blue",))), OUT[2]), (OUT[0], OUT[1]), (),
            (FINE[0], (("dep", "out", ("made", "runred")),) * 2, FINE[2]), (FINE[0], (), FINE[2]), OUT + FINE,
        )
        wanted = (built(DOC_TREE, (), ()), ("out", "fine"), (OUT, FINE))
        self.same(rebuilt(DOC_TREE, (), (), lies), wanted)
        self.same(rebuilt(DOC_TREE, (), (), lies + (FINE,) + lies)[1:], (("out",), (FINE, OUT)))
        # Traces that hold, but do not fit.
        other = (OUT[0], (("file", "app/main", None),), ("bad", "file"))
        third = (FINE[0], (("dep", "out", ("bad", "file")),), ("bad", "dep"))
        self.same(rebuilt(DOC_TREE, (), (), (other, third)), wanted[:2] + ((other, third, OUT, FINE),))

    def test_odd_stores(self):
        for store in ODD:
            if isinstance(store, (list, tuple)):
                self.same(rebuilt(DOC_TREE, (), (), store)[1:], (("out", "fine"), (OUT, FINE)))
            else:
                self.bad_value(4, rebuilt, DOC_TREE, (), (), store)
        self.same(rebuilt(DOC_TREE, (), (), ODD)[1:], (("out", "fine"), (OUT, FINE)))
        paper = ("pick", "a", ())
        self.same(rebuilt(DOC_TREE, (), (), paper)[1:], (("out", "fine"), (OUT, FINE)))

    def test_random_stores(self):
        chance = random.Random(47)
        trees = [(tree_of(chance), chance.choice(FACTS)) for _ in range(120)]
        for tree, facts in trees:
            pairs = traces(tree, facts, REGISTRY)
            other, others = chance.choice(trees)
            store = store_of(chance, pairs + traces(other, others, REGISTRY))
            before = copy.deepcopy(store)
            results, fresh, after = rebuilt(tree, facts, REGISTRY, store)
            self.assertEqual(store, before)
            kept = [repr(tuples(trace)) for trace in store if holds(trace)]
            self.same(results, built(tree, facts, REGISTRY))
            self.same(fresh, tuple(name for name, trace in pairs if repr(trace) not in kept))
            wanted = kept + [repr(trace) for name, trace in pairs if name in fresh]
            self.assertEqual([repr(trace) for trace in after], list(dict.fromkeys(wanted)))
            self.same(rebuilt(tree, facts, REGISTRY, after), (results, (), after))

    def test_a_store_that_is_handed_on(self):
        chance = random.Random(4)
        store = ()
        for _ in range(60):
            tree = tree_of(chance)
            facts = chance.choice(FACTS)
            results, fresh, after = rebuilt(tree, facts, REGISTRY, store)
            self.same(results, built(tree, facts, REGISTRY))
            self.same(after[:len(store)], store)
            expressions = {name: expression for _, name, expression in rules(tree)}
            self.assertLessEqual({trace[0] for trace in after[len(store):]}, {expressions[name] for name in fresh})
            store = after


class ErrorsTest(Asking, unittest.TestCase):

    def test_wrong_arguments(self):
        for call in CALLS:
            for value in ODD + [(), []]:
                self.bad_value(1, call, value, (), ())
                self.bad_value(1, call, value, None, None)
                if value != () and value != []:
                    self.bad_value(2, call, DOC_TREE, value, ())
                    self.bad_value(2, call, DOC_TREE, value, None)
                    self.bad_value(3, call, DOC_TREE, (), value)
                    self.bad_value(3, call, one_file("set/all", "?"), (), value)
            self.bad_value(2, call, one_file("set/all", "?"), None, ())
            self.bad_value(2, call, DOC_TREE, DOC_TREE, ())
            self.bad_value(2, call, DOC_TREE, tuple((name, "x") for name in "abcde"), ())
            self.bad_value(3, call, DOC_TREE, (), PACKS + PACKS[:1])
            self.bad_value(3, call, DOC_TREE, (), tuple(reversed(PACKS)))

    def test_wrong_files(self):
        paths = ("build/a", "build/b", "pack/goals", "set/a", "set/b")
        for call in CALLS:
            for first in range(len(paths)):
                for last in range(first + 1, len(paths) + 1):
                    tree = Tree(tuple((path, "\n?") for path in paths[first:last]))
                    self.bad_file(paths[first], 2, call, tree, (), ())
                    self.bad_file(paths[first], 2, call, tree, (("land", "fr"),), PACKS)
            call(Tree((("fleet/places", "?"), ("own/rules", "?"))), (), ())
            # A wrong file comes ahead of goals without a solution.
            tree = Tree((("pack/goals", "need c 1 1\n"), ("set/a", "end")))
            self.bad_file("set/a", 1, call, tree, (), ())

    def test_no_solution(self):
        tree = Tree((("build/all", "target a = line"), ("pack/goals", "need a 2 2\n")))
        for call in CALLS:
            with self.assertRaises(NoSolution) as caught:
                call(tree, (), PACKS)
            self.same(caught.exception.paper, ("pick", "a", ((2, ("pick", "b", ())),)))
            self.assertTrue(refutes(PACKS, goals(tree), caught.exception.paper))
            with self.assertRaises(NoSolution):
                call(tree, (), ())

    def test_a_wrong_store_comes_last(self):
        self.bad_value(3, rebuilt, DOC_TREE, (), None, None)
        self.bad_file("set/a", 1, rebuilt, one_file("set/a", "?"), (), (), None)
        with self.assertRaises(NoSolution):
            rebuilt(one_file("pack/goals", "need a 1 1"), (), (), None)
        self.bad_value(4, rebuilt, Tree(), (), (), "")
        self.bad_value(4, rebuilt, Tree(), (), (), None)

    def test_arguments_are_not_changed(self):
        facts = [["land", "fr"]]
        registry = listed(PACKS)
        store = [listed(OUT), OUT, "?"]
        for call in CALLS[:3]:
            call(DOC_TREE, facts, registry)
        _, _, after = rebuilt(DOC_TREE, facts, registry, store)
        self.assertEqual((facts, registry, store), ([["land", "fr"]], listed(PACKS), [listed(OUT), OUT, "?"]))
        store[0][1].clear()
        self.same(after, (OUT, FINE))


if __name__ == "__main__":
    unittest.main()
