"""What several tests use: wrong values of every kind, and how errors are asked for."""

from releasehouse.errors import BadFile, BadSyntax, BadValue, NoSolution
from releasehouse.packages import refutes
from releasehouse.trees import Tree


def nested(depth):
    """Return a list in a list, so many deep."""
    value = []
    for _ in range(depth - 1):
        value = [value]
    return value


# None of these is a tree, an edit, facts, a registry, goals or files with anything in it.
ODD = [
    None, True, False, 0, 1, -1, 10 ** 30, -(10 ** 30),
    "", "a", "a/b", "put", "drop", "clash", "x" * 60000, "\n",
    (None,), [True], (False,), [0], (1,), ["a"], ("a", "b"), ["put", "a", "b"], ("drop", "a"),
    ((),), [[]], ((), ()), (("a",),), [["a", "b", "c", "d", "e"]], [[None, None]], [[1, 2]],
    [("a", True)], [(True, "a")], [["a", None]], [["a", ["b"]]], nested(40), [nested(39), "a"],
]


def plain_only(value):
    """Tell whether a value has no sequences but plain tuples, at every level; Trees may stand in it."""
    if isinstance(value, tuple):
        return type(value) is tuple and all(plain_only(part) for part in value)
    return type(value) in (int, str, bool, type(None), Tree)


def listed(value):
    """Return the value with lists for its tuples, at every level."""
    if isinstance(value, (list, tuple)):
        return [listed(part) for part in value]
    return value


def one_file(path, *lines):
    """Return a tree of one file with these lines, each ended."""
    return Tree(((path, ended(*lines)),))


def ended(*lines):
    """Return the lines, each ended, as one string."""
    return "".join(line + "\n" for line in lines)


def tree_with(files, **more):
    """Return the tree of a dict of files, with those more; a name x_y is the path x/y, None drops it."""
    both = {**files, **{name.replace("_", "/"): content for name, content in more.items()}}
    return Tree(tuple((path, content) for path, content in sorted(both.items()) if content is not None))


def edit_to(**more):
    """Return the edit that puts these files; a name x_y is the path x/y, None drops it."""
    named = sorted((name.replace("_", "/"), content) for name, content in more.items())
    return tuple(("drop", path) if content is None else ("put", path, content) for path, content in named)


def with_files(value):
    """Return the value with what tells of a Tree in place of each Tree."""
    if isinstance(value, Tree):
        return f"Tree({value.files!r})"
    if type(value) in (list, tuple):
        return type(value)([with_files(part) for part in value])
    return value


class Asking:
    """Assertions for test cases."""

    def bad_value(self, at, function, *values, **named):
        with self.assertRaises(BadValue) as caught:
            function(*values, **named)
        self.assertEqual(caught.exception.at, at, (function, values))

    def bad_file(self, path, at, function, *values):
        with self.assertRaises(BadFile) as caught:
            function(*values)
        self.assertEqual((caught.exception.path, caught.exception.at), (path, at), values)

    def bad_syntax(self, at, function, *values):
        with self.assertRaises(BadSyntax) as caught:
            function(*values)
        self.assertEqual(caught.exception.at, at, values)

    def no_solution(self, registry, wanted, function, *values):
        """There is no solution, and what is raised shows it for these goals."""
        with self.assertRaises(NoSolution) as caught:
            function(*values)
        self.assertTrue(refutes(registry, wanted, caught.exception.paper))

    def same(self, got, wanted):
        """The same value, of the same kinds: 1 is not True, a list is no tuple."""
        self.assertEqual(got, wanted)
        self.assertEqual(repr(with_files(got)), repr(with_files(wanted)))
