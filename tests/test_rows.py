"""Rows, of which the texts of the store's files are made."""

import unittest

from tierstore.rows import key_and_rest, read_key_and_rest, row_at, rows_of, text_of_rows


class Rows(unittest.TestCase):
    TOLD = {"": [], "\n": [""], "a\n": ["a"], "a\nb\n": ["a", "b"], "\na\n\n": ["", "a", ""], " \n": [" "]}

    def test_written_and_read(self):
        for text, rows in self.TOLD.items():
            self.assertEqual(text_of_rows(rows), text)
            self.assertEqual(rows_of(text), rows)

    def test_what_has_no_line_end_is_no_row(self):
        self.assertEqual([rows_of(text) for text in ["a", "a\nb", "\n "]], [[], ["a"], [""]])

    def test_a_row_by_its_number(self):
        told = [row_at(["a", "b"], line) for line in [1, 2, 3, 9]]
        self.assertEqual(told, ["a", "b", "", ""])
        self.assertEqual(row_at([], 1), "")


class KeysWithTheirLengths(unittest.TestCase):
    TOLD = {
        "01a": ("a", ""), "01ax": ("a", "x"), "02ax": ("ax", ""), "0112": ("1", "2"), "03 a  ": (" a ", " "),
        "10" + "k" * 10 + "v": ("k" * 10, "v"), "20" + "k" * 20: ("k" * 20, ""), "20" + "k" * 21: ("k" * 20, "k"),
    }

    def test_written_and_read(self):
        for text, pair in self.TOLD.items():
            self.assertEqual(key_and_rest(*pair), text)
            self.assertEqual(read_key_and_rest(text), pair)

    def test_a_length_that_is_none(self):
        texts = ["", "1", "0", "a", "1a", "a1b", " 1a", "+1a", "-1a", "00", "00a", "21" + "k" * 21, "99" + "k" * 99]
        for text in texts:
            self.assertIsNone(read_key_and_rest(text), text)

    def test_a_key_that_is_shorter_than_told(self):
        for text in ["01", "02a", "20" + "k" * 19]:
            self.assertIsNone(read_key_and_rest(text), text)


if __name__ == "__main__":
    unittest.main()
