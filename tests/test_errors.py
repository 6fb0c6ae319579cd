"""Errors: point 19."""

import unittest

from releasehouse import errors
from releasehouse.errors import BadFile, BadSyntax, BadValue, HouseError, NoSolution

from helpers import Asking


class ErrorsTest(Asking, unittest.TestCase):

    def test_bases(self):
        self.assertEqual(HouseError.__bases__, (Exception,))
        for kind in (BadValue, BadFile, NoSolution, BadSyntax):
            self.assertEqual(kind.__bases__, (HouseError,))
            self.assertEqual(kind.__module__, errors.__name__)

    def test_attributes_by_position(self):
        self.assertEqual(BadValue(3).at, 3)
        wrong = BadFile("set/all", 7)
        self.assertEqual((wrong.path, wrong.at), ("set/all", 7))
        self.assertEqual(NoSolution(("clash", "a")).paper, ("clash", "a"))
        self.assertEqual(BadSyntax(0).at, 0)

    def test_attributes_by_name(self):
        self.assertEqual(BadValue(at=2).at, 2)
        wrong = BadFile(at=1, path="pack/goals")
        self.assertEqual((wrong.path, wrong.at), ("pack/goals", 1))
        self.assertEqual(NoSolution(paper=("clash", "a")).paper, ("clash", "a"))
        self.assertEqual(BadSyntax(at=5).at, 5)

    def test_paper_is_kept_as_plain_tuples(self):
        paper = ["pick", "a", [[1, ["clash", "a"]]]]
        wrong = NoSolution(paper)
        paper[2][0][1][1] = "b"
        self.same(wrong.paper, ("pick", "a", ((1, ("clash", "a")),)))

    def test_each_can_be_raised_and_caught_as_house_error(self):
        for wrong in (BadValue(1), BadFile("a", 1), NoSolution(()), BadSyntax(0)):
            with self.assertRaises(HouseError):
                raise wrong


if __name__ == "__main__":
    unittest.main()
