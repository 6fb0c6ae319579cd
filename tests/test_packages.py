"""Packages, registries and goals: points 15, 27 to 30 and 32 to 34."""

import random
import unittest
from itertools import product

from releasehouse.packages import refutes, solved
from releasehouse.trees import Tree

from helpers import ODD, Asking, listed, plain_only

NINE = (1, 9)


def pack(name, version, *needs):
    return (name, version, needs, "")


def suits(versions, triples):
    return all(low <= versions.get(name, 0) <= high for name, low, high in triples)


def is_solution(registry, goals, versions):
    """Tell by the words of point 29 whether a dict of versions is a solution."""
    needs = {(name, version): needs for name, version, needs, _ in registry}
    if not all(pair in needs for pair in versions.items()) or not suits(versions, goals):
        return False
    if not all(suits(versions, needs[pair]) for pair in versions.items()):
        return False
    reached = {name for name, _, _ in goals}
    for _ in versions:
        for name in sorted(reached):
            reached |= {need[0] for need in needs[name, versions[name]]}
    return set(versions) == reached


def best_by_trying(registry, goals):
    """Return the best solution by trying all, or None."""
    names = sorted({package[0] for package in registry})
    choices = [[0] + [package[1] for package in registry if package[0] == name] for name in names]
    best = None
    for row in product(*choices):
        versions = {name: version for name, version in zip(names, row) if version}
        if is_solution(registry, goals, versions) and (best is None or row > best[0]):
            best = (row, tuple(sorted(versions.items())))
    return None if best is None else best[1]


def is_paper(registry, asked, picked, paper):
    """Tell by the words of point 33 whether a paper is one for these lists."""
    if paper[0] == "clash":
        name = paper[1]
        return any(
            picked_name == name == asked_name and not low <= version <= high
            for picked_name, version in picked for asked_name, low, high in asked
        )
    name, branches = paper[1], paper[2]
    if name not in [triple[0] for triple in asked] or name in [pair[0] for pair in picked]:
        return False
    left = [
        package for package in registry
        if package[0] == name and suits({name: package[1]}, [triple for triple in asked if triple[0] == name])
    ]
    if [package[1] for package in left] != [branch[0] for branch in branches]:
        return False
    return all(
        is_paper(registry, asked + list(package[2]), picked + [(name, package[1])], branch[1])
        for package, branch in zip(left, branches)
    )


def spots(paper, way=()):
    """Return the ways to all papers within a paper."""
    found = [way]
    if paper[0] == "pick":
        for at, branch in enumerate(paper[2]):
            found += spots(branch[1], way + (2, at, 1))
    return found


def put_at(value, way, part):
    """Return the value, with the part in it at the end of a way of indexes."""
    if not way:
        return part
    return value[:way[0]] + (put_at(value[way[0]], way[1:], part),) + value[way[0] + 1:]


def part_at(value, way):
    for at in way:
        value = value[at]
    return value


def small_case(chance):
    """Return a small registry and goals, needs coming round and of own names among them."""
    names = "abcd"[:chance.randint(1, 4)]
    most = chance.choice((1, 2, 3))

    def triples(count):
        chosen = sorted(chance.sample(names, min(count, len(names))))
        rows = []
        for name in chosen:
            low = chance.randint(1, most)
            rows.append((name, low, chance.randint(low, most + 1)))
        return tuple(rows)

    registry = [
        (name, version, triples(chance.choice((0, 0, 1, 1, 2, 3))), "")
        for name in names for version in range(1, most + 1) if chance.random() < 0.85
    ]
    return tuple(registry), triples(chance.choice((0, 1, 1, 2, 2, 3)))


class SolvedTest(Asking, unittest.TestCase):

    def check_none(self, registry, goals, paper=None):
        word, found = solved(registry, goals)
        self.assertEqual(word, "none")
        self.assertTrue(plain_only(found))
        self.assertIs(refutes(registry, goals, found), True)
        self.assertTrue(is_paper(registry, list(goals), [], found))
        if paper is not None:
            self.same(found, paper)

    def check_best(self, registry, goals, solution):
        self.same(solved(registry, goals), ("solution", solution))
        self.same(solved(listed(registry), listed(goals)), ("solution", solution))
        self.same(solved(goals=goals, registry=registry), ("solution", solution))

    def test_no_goals(self):
        self.check_best((), (), ())
        self.check_best((pack("a", 1), pack("b", 1, ("a", 1, 1))), (), ())

    def test_the_highest_versions(self):
        registry = (pack("a", 1), pack("a", 3), pack("a", 7), pack("b", 2))
        self.check_best(registry, (("a", 1, 9),), (("a", 7),))
        self.check_best(registry, (("a", 1, 6),), (("a", 3),))
        self.check_best(registry, (("a", 2, 3),), (("a", 3),))
        self.check_best(registry, (("a", 1, 2), ("b", 2, 2)), (("a", 1), ("b", 2)))

    def test_versions_from_low_to_high(self):
        registry = tuple(pack("a", version) for version in range(1, 10))
        for low in range(1, 10):
            for high in range(low, 10):
                self.check_best(registry, (("a", low, high),), (("a", high),))

    def test_earlier_names_count_first(self):
        registry = (
            pack("a", 1), pack("a", 2, ("b", 1, 1)), pack("b", 1), pack("b", 2),
        )
        self.check_best(registry, (("a", 1, 2), ("b", 1, 2)), (("a", 2), ("b", 1)))
        registry = (pack("a", 1), pack("a", 2), pack("b", 1), pack("b", 2, ("a", 1, 1)))
        self.check_best(registry, (("a", 1, 2), ("b", 1, 2)), (("a", 2), ("b", 1)))

    def test_a_name_that_is_in_is_better_than_one_that_is_not(self):
        registry = (pack("a", 1), pack("b", 1, ("a", 1, 1)), pack("b", 2))
        self.check_best(registry, (("b", 1, 2),), (("a", 1), ("b", 1)))
        # But a name that nothing asks for is not in.
        self.check_best(registry, (("b", 2, 2),), (("b", 2),))

    def test_a_later_need_lowers_an_earlier_name(self):
        registry = (
            pack("a", 1), pack("a", 2), pack("m", 1, ("a", 1, 1)), pack("z", 1, ("m", 1, 1)),
        )
        self.check_best(registry, (("a", 1, 2), ("z", 1, 1)), (("a", 1), ("m", 1), ("z", 1)))

    def test_needs_that_come_round(self):
        registry = (pack("a", 1, ("b", 1, 1)), pack("b", 1, ("a", 1, 1)))
        self.check_best(registry, (("a", 1, 1),), (("a", 1), ("b", 1)))
        registry = (pack("a", 1, ("b", 1, 9)), pack("a", 2, ("b", 1, 9)), pack("b", 1, ("a", 1, 1)))
        self.check_best(registry, (("a", 1, 9),), (("a", 1), ("b", 1)))
        self.check_none(registry, (("a", 2, 9),))
        # Two that only ask for one another are not in.
        registry = (pack("a", 1, ("b", 1, 1)), pack("b", 1, ("a", 1, 1)), pack("c", 1))
        self.check_best(registry, (("c", 1, 1),), (("c", 1),))

    def test_a_need_of_the_own_name(self):
        registry = (pack("a", 1, ("a", 1, 2)), pack("a", 2, ("a", 1, 1)), pack("a", 3, ("a", 1, 2)))
        self.check_best(registry, (("a", 1, 9),), (("a", 1),))
        self.check_none(
            registry, (("a", 2, 9),), ("pick", "a", ((2, ("clash", "a")), (3, ("clash", "a")))),
        )

    def test_papers(self):
        self.check_none((), (("a", 1, 9),), ("pick", "a", ()))
        self.check_none((pack("a", 1),), (("a", 2, 9),), ("pick", "a", ()))
        self.check_none(
            (pack("a", 1, ("b", 2, 2)), pack("b", 1)), (("a", 1, 1),), ("pick", "a", ((1, ("pick", "b", ())),)),
        )
        registry = (pack("a", 1, ("b", 1, 1)), pack("b", 1, ("c", 1, 1)), pack("c", 1, ("a", 2, 2)))
        self.check_none(registry, (("a", 1, 9),))

    def test_thirty_packages(self):
        registry = tuple(
            pack(f"n{at}", version, *((f"n{at + 1}", version, version),) * (at < 9))
            for at in range(10) for version in (1, 2, 3)
        )
        self.check_best(registry, (("n0", 1, 9),), tuple((f"n{at}", 3) for at in range(10)))
        self.check_best(registry, (("n0", 1, 9), ("n9", 2, 2)), tuple((f"n{at}", 2) for at in range(10)))
        self.check_none(registry, (("n0", 1, 9), ("n9", 4, 4)))
        self.check_none(registry, (("n0", 1, 1), ("n9", 2, 3)))

    def test_free_choices_do_not_hide_a_clash(self):
        # The versions of m0 to m4 are not to blame, so the paper picks none of them.
        free = tuple(pack(f"m{at}", version) for at in range(5) for version in (1, 2, 3))
        registry = free + (
            pack("q", 1, ("r", 2, 2), ("z", 1, 2)), pack("q", 2, ("r", 2, 2)), pack("r", 1),
            pack("z", 1, ("q", 1, 2)), pack("z", 2, ("q", 1, 2)),
        )
        goals = tuple((f"m{at}", 1, 3) for at in range(5)) + (("z", 1, 2),)
        self.check_none(registry, goals)
        paper = solved(registry, goals)[1]
        self.assertEqual([name for name in repr(paper).split("'") if name.startswith("m")], [])

    def test_by_trying_all(self):
        chance = random.Random(32)
        words = {"solution": 0, "none": 0}
        for _ in range(1500):
            registry, goals = small_case(chance)
            best = best_by_trying(registry, goals)
            if best is None:
                self.check_none(registry, goals)
            else:
                self.same(solved(registry, goals), ("solution", best))
            words["none" if best is None else "solution"] += 1
        self.assertGreater(min(words.values()), 300)

    def test_more_packages_leave_a_solution(self):
        chance = random.Random(15)
        kept = 0
        for _ in range(500):
            registry, goals = small_case(chance)
            if registry:
                gone = chance.choice(registry)
                less = tuple(package for package in registry if package != gone)
                if solved(less, goals)[0] == "solution":
                    kept += 1
                    self.assertEqual(solved(registry, goals)[0], "solution")
        self.assertGreater(kept, 100)


class RefutesTest(Asking, unittest.TestCase):

    registry = (
        pack("a", 1, ("b", 2, 2)), pack("a", 2, ("b", 3, 3)),
        pack("b", 2, ("a", 2, 2)), pack("b", 3, ("a", 1, 1)), pack("c", 1),
    )
    goals = (("a", 1, 9),)
    paper = (
        "pick", "a", (
            (1, ("pick", "b", ((2, ("clash", "a")),))),
            (2, ("pick", "b", ((3, ("clash", "a")),))),
        ),
    )

    def test_a_paper(self):
        self.assertIs(refutes(self.registry, self.goals, self.paper), True)
        self.assertIs(refutes(listed(self.registry), listed(self.goals), listed(self.paper)), True)
        self.assertIs(refutes(paper=self.paper, goals=self.goals, registry=self.registry), True)

    def test_papers_of_other_goals(self):
        for goals in ((), (("b", 1, 9),), (("a", 1, 1),), (("a", 2, 9),), (("c", 1, 1),)):
            self.assertIs(refutes(self.registry, goals, self.paper), False)
        self.assertIs(refutes(self.registry[1:], self.goals, self.paper), False)
        self.assertIs(refutes((pack("a", 1),), self.goals, self.paper), False)

    def test_bent_in_one_place(self):
        branches = self.paper[2]
        first = branches[0]
        bent = [
            (), ("pick",), ("pick", "a"), ("clash", "a"), ("pick", "a", branches, ()), ("clash", "a", branches),
            ("Pick", "a", branches), (None, "a", branches), ("pick", None, branches), ("pick", "b", branches),
            ("pick", "c", branches), ("pick", "d", branches), ("pick", "d", ()), ("pick", ("a",), branches),
            ("pick", "a", ()), ("pick", "a", None), ("pick", "a", "ab"), ("pick", "a", branches[:1]),
            ("pick", "a", branches[1:]), ("pick", "a", branches[::-1]), ("pick", "a", branches + branches[1:]),
            ("pick", "a", branches + ((3, ("clash", "a")),)), ("pick", "a", (first, first)),
            put_at(self.paper, (2, 0, 0), True), put_at(self.paper, (2, 0, 0), 2), put_at(self.paper, (2, 0, 0), "1"),
            put_at(self.paper, (2, 0, 0), None), put_at(self.paper, (2, 0, 0), (1,)),
            put_at(self.paper, (2, 1, 0), 3), put_at(self.paper, (2, 0), (1,)),
            put_at(self.paper, (2, 0), first + (None,)), put_at(self.paper, (2, 0), "ab"),
            put_at(self.paper, (2, 0, 1), ("clash", "b")), put_at(self.paper, (2, 0, 1), ("clash", "a")),
            put_at(self.paper, (2, 0, 1), ("clash", "c")), put_at(self.paper, (2, 0, 1, 1), "a"),
            put_at(self.paper, (2, 0, 1, 2), ()), put_at(self.paper, (2, 0, 1, 2, 0, 0), 3),
            put_at(self.paper, (2, 0, 1, 2, 0, 1), ("clash", "b")),
            put_at(self.paper, (2, 0, 1, 2, 0, 1), ("clash", "c")),
            put_at(self.paper, (2, 0, 1, 2, 0, 1), ("clash",)), put_at(self.paper, (2, 0, 1, 2, 0, 1), ("clash", True)),
            put_at(self.paper, (2, 0, 1, 2, 0, 1), ("clash", ["a"])), put_at(self.paper, (2, 0, 1, 2, 0, 1), None),
            put_at(self.paper, (2, 0, 1, 2, 0, 1), ("pick", "a", branches)),
            put_at(self.paper, (2, 0, 1, 2, 0, 1), ("pick", "c", ())),
            put_at(self.paper, (2, 0, 1, 2, 0, 1), ("clash", "a", ())),
            put_at(self.paper, (2, 0, 1, 2, 0, 1), ("pick", "a")),
        ]
        for paper in bent:
            self.assertIs(refutes(self.registry, self.goals, paper), False, paper)

    def test_odd_papers(self):
        for value in ODD + [(), [], self.registry, self.goals]:
            self.assertIs(refutes(self.registry, self.goals, value), False)
            self.assertIs(refutes((), (), value), False)

    def test_a_name_may_be_picked_beside_a_clash(self):
        registry = (pack("a", 1, ("a", 2, 2), ("b", 1, 1)), pack("b", 1))
        goals = (("a", 1, 9),)
        self.assertIs(refutes(registry, goals, ("pick", "a", ((1, ("clash", "a")),))), True)
        paper = ("pick", "a", ((1, ("pick", "b", ((1, ("clash", "a")),))),))
        self.assertIs(refutes(registry, goals, paper), True)
        # A name that is picked is not picked again.
        paper = ("pick", "a", ((1, ("pick", "a", ())),))
        self.assertIs(refutes(registry, goals, paper), False)

    def test_bent_by_chance(self):
        chance = random.Random(34)
        bent = 0
        for _ in range(1500):
            registry, goals = small_case(chance)
            word, paper = solved(registry, goals)
            if word == "none":
                for way in spots(paper):
                    part = part_at(paper, way)
                    others = [("clash", name) for name in "abcd"] + [("pick", name, ()) for name in "abcd"]
                    if part[0] == "pick":
                        others += [("pick", name, part[2]) for name in "abcd"]
                        others += [put_at(part, (2,), part[2][:-1]), put_at(part, (2,), part[2] * 2)]
                    for other in others:
                        changed = put_at(paper, way, other)
                        wanted = is_paper(registry, list(goals), [], changed)
                        self.assertIs(refutes(registry, goals, changed), wanted)
                        bent += not wanted
        self.assertGreater(bent, 3000)

    def test_a_solution_leaves_no_paper(self):
        chance = random.Random(33)
        papers = [self.paper, ("pick", "a", ())]
        for _ in range(800):
            registry, goals = small_case(chance)
            word, found = solved(registry, goals)
            if word == "none":
                papers = papers[-10:] + [found]
            else:
                for paper in papers:
                    self.assertIs(refutes(registry, goals, paper), False)


class ArgumentsTest(Asking, unittest.TestCase):

    def wrong_registry(self, value):
        self.bad_value(1, solved, value, ())
        self.bad_value(1, solved, value, None)
        self.bad_value(1, refutes, value, (), ())
        self.bad_value(1, refutes, value, "a", None)

    def wrong_goals(self, value):
        self.bad_value(2, solved, (), value)
        self.bad_value(2, refutes, (), value, ("clash", "a"))

    def right_registry(self, value):
        self.same(solved(value, ()), ("solution", ()))

    def test_odd_values(self):
        for value in ODD + [Tree()]:
            self.wrong_registry(value)
            self.wrong_goals(value)

    def test_packages(self):
        name = "a23456789012"
        self.right_registry(((name, 1, (), "x" * 1000), ("b", 9, (), "\n ~")))
        wrong = (
            ("a", 1, ()), ("a", 1, (), "", ""), (), "abcd", ("A", 1, (), ""), ("", 1, (), ""), (name + "3", 1, (), ""),
            ("a/b", 1, (), ""), (None, 1, (), ""), (1, 1, (), ""), ("a", 0, (), ""), ("a", 10, (), ""),
            ("a", True, (), ""), ("a", "1", (), ""), ("a", None, (), ""), ("a", -1, (), ""), ("a", (1,), (), ""),
            ("a", 1, None, ""), ("a", 1, "", ""), ("a", 1, "abc", ""), ("a", 1, True, ""), ("a", 1, (), None),
            ("a", 1, (), "x" * 1001), ("a", 1, (), ()), ("a", 1, (), ["x"]), ("a", 1, (), True),
            ("a", 1, (), chr(37)), ("a", 1, ("b", 1, 1), ""), ("a", 1, [["b", 1]], ""),
        )
        for package in wrong:
            self.wrong_registry((package,))
            self.wrong_registry((("a", 1, (), ""), package))

    def test_needs_and_goals(self):
        five = tuple((name, 1, 9) for name in "abcde")
        wrong = (
            (("a", 1),), (("a", 1, 1, 1),), ("abc",), ("a", 1, 1), ((),), (("A", 1, 1),), (("", 1, 1),),
            (("a", 0, 1),), (("a", 1, 10),), (("a", 2, 1),), (("a", True, 1),), (("a", 1, True),), (("a", False, 1),),
            (("a", "1", 1),), (("a", 1, None),), (("a", 1, (1,)),), ((1, 1, 1),), ((None, 1, 1),), ((("a",), 1, 1),),
            (("b", 1, 1), ("a", 1, 1)), (("a", 1, 1), ("a", 1, 1)), (("a", 1, 1), ("a", 2, 2)), (("a/b", 1, 1),),
        )
        for needs in wrong:
            self.wrong_registry((("a", 1, needs, ""),))
            self.wrong_goals(needs)
        self.right_registry((("a", 1, five[:4], ""),))
        self.right_registry((("a", 9, (("a", 9, 9),), ""),))
        self.wrong_registry((("a", 1, five, ""),))

    def test_how_many_goals(self):
        seven = tuple((name, 1, 9) for name in "abcdefg")
        self.assertEqual(solved((), seven[:6])[0], "none")
        self.assertIs(refutes((), seven[:6], ("pick", "f", ())), True)
        self.wrong_goals(seven)

    def test_order_of_a_registry(self):
        self.right_registry((pack("a", 1), pack("a", 2), pack("b", 1)))
        self.wrong_registry((pack("a", 2), pack("a", 1)))
        self.wrong_registry((pack("b", 1), pack("a", 2)))
        self.wrong_registry((pack("a", 1), pack("a", 1)))
        self.wrong_registry((pack("a", 1), ("a", 1, (), "other")))

    def test_how_many_packages(self):
        registry = tuple(pack(f"n{at:02}", version) for at in range(11) for version in (1, 2, 3))
        self.right_registry(registry[:30])
        self.wrong_registry(registry[:31])

    def test_arguments_are_not_changed(self):
        registry = listed((pack("a", 1, ("b", 1, 1)), pack("b", 1)))
        goals = [["a", 1, 9]]
        before = repr((registry, goals))
        solution = solved(registry, goals)
        paper = listed(solved([], goals)[1])
        self.assertIs(refutes([], goals, paper), True)
        registry[0][2][0][0] = "c"
        self.same(solution, ("solution", (("a", 1), ("b", 1))))
        registry[0][2][0][0] = "b"
        self.assertEqual(repr((registry, goals)), before)


if __name__ == "__main__":
    unittest.main()
