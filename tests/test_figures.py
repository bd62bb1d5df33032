"""Numbers in figures, as the texts of sieves and runs have them."""

import unittest

from tierstore.figures import are_figures, read_figures


class Figures(unittest.TestCase):
    def test_one_and_more(self):
        for text in ["0", "9", "00", "07", "1234567890"]:
            self.assertIs(are_figures(text), True, text)

    def test_none_or_other_signs(self):
        for text in ["", " ", "a", "1a", "a1", " 1", "1 ", "1\n", "-1", "+1", "1_0", "1.0"]:
            self.assertIs(are_figures(text), False, text)


class Numbers(unittest.TestCase):
    def test_within_the_bounds(self):
        self.assertEqual([read_figures(text, 1, 120) for text in ["1", "9", "10", "99", "120"]], [1, 9, 10, 99, 120])

    def test_outside_the_bounds(self):
        for text in ["0", "4", "121", "999", "1000", "1" * 5000]:
            self.assertIsNone(read_figures(text, 5, 120), text)

    def test_nought_by_itself_is_a_number(self):
        self.assertEqual(read_figures("0", 0, 9), 0)

    def test_a_nought_ahead(self):
        for text in ["00", "01", "010"]:
            self.assertIsNone(read_figures(text, 0, 999), text)

    def test_other_texts(self):
        for text in ["", " ", "-1", "+1", "1 ", " 1", "1_0", "x"]:
            self.assertIsNone(read_figures(text, 0, 999), text)


if __name__ == "__main__":
    unittest.main()
