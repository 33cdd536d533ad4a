"""Point [3]: the errors."""

import unittest

from roundfence import errors
from roundfence.errors import FenceError, NoLast, NoPlace, NoRound, NoRow, NoText, NoTicks, NoTimes

CLASSES = (NoRound, NoRow, NoPlace, NoLast, NoTicks, NoTimes, NoText)


class ErrorsTest(unittest.TestCase):

    def test_all_refusals_are_value_errors(self):
        self.assertEqual(FenceError.__bases__, (ValueError,))

    def test_each_stands_straight_under_fence_error(self):
        for kind in CLASSES:
            self.assertEqual(kind.__bases__, (FenceError,), kind)

    def test_none_stands_under_another_one(self):
        self.assertEqual(len(set(CLASSES)), 7)
        for kind in CLASSES:
            self.assertEqual([each for each in CLASSES if issubclass(kind, each)], [kind])

    def test_each_is_defined_in_its_file_by_its_name(self):
        names = ("NoRound", "NoRow", "NoPlace", "NoLast", "NoTicks", "NoTimes", "NoText")
        for name, kind in zip(names + ("FenceError",), CLASSES + (FenceError,)):
            self.assertEqual(kind.__name__, name)
            self.assertEqual(kind.__module__, "roundfence.errors")
            self.assertIs(getattr(errors, name), kind)

    def test_what_is_told_by_place(self):
        for kind in CLASSES:
            for what in (0, 1, -7, 10 ** 60, "", "third", (3, 4), (None, 2), (1, None)):
                self.assertEqual(kind(what).what, what)
                self.assertIs(type(kind(what).what), type(what))

    def test_what_is_told_by_name(self):
        for kind in CLASSES:
            for what in (0, -1, "no text", (0, -1), (None, 2)):
                self.assertEqual(kind(what=what).what, what)

    def test_each_is_caught_as_a_fence_error(self):
        for kind in CLASSES:
            with self.assertRaises(FenceError) as caught:
                raise kind((1, 2))
            self.assertEqual(caught.exception.what, (1, 2))


if __name__ == "__main__":
    unittest.main()
