"""Numbers in figures, as the texts of the store's files have them."""

import unittest

from tierstore.figures import are_figures, padded, read_figures, read_padded


class Figures(unittest.TestCase):
    def test_one_and_more(self):
        for text in ["0", "9", "00", "07", "1234567890"]:
            self.assertIs(are_figures(text), True, text)

    def test_none_or_other_signs(self):
        for text in ["", " ", "a", "1a", "a1", " 1", "1 ", "1\n", "-1", "+1", "1_0", "1.0"]:
            self.assertIs(are_figures(text), False, text)


class Padded(unittest.TestCase):
    def test_written(self):
        told = [padded(1, 2), padded(12, 2), padded(0, 5), padded(120, 5), padded(999999999, 9), padded(5, 1)]
        self.assertEqual(told, ["01", "12", "00000", "00120", "999999999", "5"])

    def test_read_within_the_bounds(self):
        self.assertEqual([read_padded(text, 1, 20) for text in ["01", "1", "09", "020", "20"]], [1, 1, 9, 20, 20])
        self.assertEqual(read_padded("000", 0, 20), 0)

    def test_read_outside_the_bounds(self):
        for text in ["00", "0", "21", "99", "100"]:
            self.assertIsNone(read_padded(text, 1, 20), text)

    def test_other_texts(self):
        for text in ["", " ", " 1", "1 ", "+1", "-1", "1_0", "x1", "1x", "0\n"]:
            self.assertIsNone(read_padded(text, 0, 99), text)


class Numbers(unittest.TestCase):
    def test_within_the_bounds(self):
        self.assertEqual([read_figures(text, 1, 120) for text in ["1", "9", "10", "99", "120"]], [1, 9, 10, 99, 120])

    def test_outside_the_bounds(self):
        for text in ["0", "4", "121", "999", "1000", "1" * 5000]:
            self.assertIsNone(read_figures(text, 5, 120), text)

    def test_nought_by_itself_is_a_number(self):
        self.assertEqual(read_figures("0", 0, 9), 0)

    def test_a_nought_ahead(self):
        for text in ["00", "01", "010"]:
            self.assertIsNone(read_figures(text, 0, 999), text)

    def test_other_texts(self):
        for text in ["", " ", "-1", "+1", "1 ", " 1", "1_0", "x"]:
            self.assertIsNone(read_figures(text, 0, 999), text)


if __name__ == "__main__":
    unittest.main()
