import unittest

from farfloor.errors import BadText, FloorError, NoColour, NoWord, Thin


class ErrorsTest(unittest.TestCase):
    def test_floor_error_is_a_value_error(self):
        self.assertEqual(FloorError.__bases__, (ValueError,))

    def test_each_stands_alone_beneath_floor_error(self):
        for kind in (Thin, NoWord, NoColour, BadText):
            with self.subTest(kind=kind.__name__):
                self.assertEqual(kind.__bases__, (FloorError,))

    def test_bad_text_bears_its_row(self):
        with self.assertRaises(BadText) as taken:
            raise BadText(65)
        self.assertEqual(taken.exception.row, 65)

    def test_rows_of_two_errors_are_their_own(self):
        one, other = BadText(1), BadText(2)
        self.assertEqual((one.row, other.row), (1, 2))


if __name__ == "__main__":
    unittest.main()
