"""Rows, of which the texts of the store's files are made, each with a line end behind it."""

from tierstore.figures import padded, read_padded
from tierstore.keys import LONGEST_KEY

KEY_FIGURES = 2


def text_of_rows(rows):
    return "".join([row + "\n" for row in rows])


def rows_of(text):
    # What stands behind the last line end has none itself, and is no row.
    return text.split("\n")[:-1]


def row_at(rows, line):
    # A row that is not there may pass for an empty one, as that is wrong in each place.
    return rows[line - 1] if line <= len(rows) else ""


def key_and_rest(key, rest):
    return padded(len(key), KEY_FIGURES) + key + rest


def read_key_and_rest(text):
    length = read_padded(text[:KEY_FIGURES], 1, LONGEST_KEY)
    if length is None:
        return None
    behind = KEY_FIGURES + length
    # A slice beyond the end would pass a length of one figure, and a key that is shorter than told.
    if len(text) < behind:
        return None
    return (text[KEY_FIGURES:behind], text[behind:])
