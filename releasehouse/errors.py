"""The errors of the package."""

from releasehouse.values import plain


class HouseError(Exception):
    """The base of all errors of the package."""


class BadValue(HouseError):
    """An argument is not as told; at is its place, from 1 on."""

    def __init__(self, at):
        self.at = at


class BadFile(HouseError):
    """The file with this path is wrong; at is the number of its first wrong line, from 1 on."""

    def __init__(self, path, at):
        self.path = path
        self.at = at


class NoSolution(HouseError):
    """Goals have no solution; paper refutes them."""

    def __init__(self, paper):
        self.paper = plain(paper)


class BadSyntax(HouseError):
    """A text, a log or a command has a wrong line; at is its number, from 0 on."""

    def __init__(self, at):
        self.at = at
