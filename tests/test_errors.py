"""Item 1: the errors, their bases and their attributes."""

import unittest

from handedpast import errors

WITH_MESSAGE = [errors.NoTable, errors.NoTime, errors.NoTrack, errors.NoCarrier, errors.NoRest, errors.NoSpot]
WITH_NAME = [errors.NoName, errors.Taken]
WITH_ROW = [errors.NoBook, errors.NoText]


class ErrorsTest(unittest.TestCase):
    def test_bases(self):
        self.assertEqual(errors.TrackError.__bases__, (ValueError,))
        for kind in WITH_MESSAGE + WITH_NAME + WITH_ROW:
            self.assertEqual(kind.__bases__, (errors.TrackError,), kind)

    def test_none_is_a_subclass_of_another(self):
        every = WITH_MESSAGE + WITH_NAME + WITH_ROW
        for one in every:
            for other in every:
                self.assertEqual(issubclass(one, other), one is other)

    def test_message(self):
        for kind in WITH_MESSAGE + [errors.TrackError]:
            self.assertEqual(str(kind("what is wrong")), "what is wrong")

    def test_name(self):
        for kind in WITH_NAME:
            for name in ["a", "", None, 7, True, [1], {"a": (1, 2)}]:
                self.assertEqual(kind(name).name, name)
            self.assertEqual(kind(name="abc").name, "abc")

    def test_row(self):
        for kind in WITH_ROW:
            self.assertEqual(kind(0).row, 0)
            self.assertEqual(kind(row=12).row, 12)

    def test_raised_and_caught(self):
        with self.assertRaises(ValueError) as caught:
            raise errors.NoName("x")
        self.assertEqual(caught.exception.name, "x")
        with self.assertRaises(errors.TrackError) as caught:
            raise errors.NoText(3)
        self.assertEqual(caught.exception.row, 3)
        self.assertIsInstance(str(caught.exception), str)


if __name__ == "__main__":
    unittest.main()
