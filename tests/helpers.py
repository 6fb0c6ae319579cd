"""What several tests use: wrong values of every kind, and how errors are asked for."""

from releasehouse.errors import BadFile, BadValue
from releasehouse.trees import Tree


def nested(depth):
    """Return a list in a list, so many deep."""
    value = []
    for _ in range(depth - 1):
        value = [value]
    return value


# None of these is a tree, an edit, facts, a registry, goals or files with anything in it.
ODD = [
    None, True, False, 0, 1, -1, 10 ** 30, -(10 ** 30),
    "", "a", "a/b", "put", "drop", "clash", "x" * 60000, "\n",
    (None,), [True], (False,), [0], (1,), ["a"], ("a", "b"), ["put", "a", "b"], ("drop", "a"),
    ((),), [[]], ((), ()), (("a",),), [["a", "b", "c", "d", "e"]], [[None, None]], [[1, 2]],
    [("a", True)], [(True, "a")], [["a", None]], [["a", ["b"]]], nested(40), [nested(39), "a"],
]


def plain_only(value):
    """Tell whether a value has no sequences but plain tuples, at every level."""
    if isinstance(value, tuple):
        return type(value) is tuple and all(plain_only(part) for part in value)
    return type(value) in (int, str, bool, type(None))


def listed(value):
    """Return the value with lists for its tuples, at every level."""
    if isinstance(value, (list, tuple)):
        return [listed(part) for part in value]
    return value


def one_file(path, *lines):
    """Return a tree of one file with these lines, each ended."""
    return Tree(((path, "".join(line + "\n" for line in lines)),))


class Asking:
    """Assertions for test cases."""

    def bad_value(self, at, function, *values, **named):
        with self.assertRaises(BadValue) as caught:
            function(*values, **named)
        self.assertEqual(caught.exception.at, at, (function, values))

    def bad_file(self, path, at, function, *values):
        with self.assertRaises(BadFile) as caught:
            function(*values)
        self.assertEqual((caught.exception.path, caught.exception.at), (path, at), values)

    def same(self, got, wanted):
        """The same value, of the same kinds: 1 is not True, a list is no tuple."""
        self.assertEqual(got, wanted)
        self.assertEqual(repr(got), repr(wanted))
