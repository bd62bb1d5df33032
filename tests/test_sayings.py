"""[8.1]: the rows that are said to a desk, word by word."""

import itertools
import random
import unittest

from tierstore.sayings import in_quotes, read_row, words_of


def words(*told):
    """Those that stand in quotes are handed in as lists."""
    return [(True, word[0]) if isinstance(word, list) else (False, word) for word in told]


class Quotes(unittest.TestCase):
    TOLD = {
        "": '""', "a": '"a"', '"': '""""', '""': '""""""', 'a"b': '"a""b"', " ": '" "', '"a': '"""a"', 'a"': '"a"""',
    }

    def test_written_and_read(self):
        for text, row in self.TOLD.items():
            self.assertEqual(in_quotes(text), row)
            self.assertEqual(words_of(row), words([text]))

    def test_all_short_texts(self):
        for many in range(6):
            for signs in itertools.product('" a,', repeat=many):
                text = "".join(signs)
                self.assertEqual(words_of(in_quotes(text)), words([text]))
                self.assertEqual(words_of(f"put {in_quotes(text)} b"), words("put", [text], "b"))

    def test_two_texts(self):
        chance = random.Random(81)
        for case in range(2000):
            one, other = ["".join(chance.choice('"" ab,') for each in range(chance.randint(0, 6))) for time in range(2)]
            self.assertEqual(words_of(f"{in_quotes(one)} {in_quotes(other)}"), words([one], [other]))


class Words(unittest.TestCase):
    TOLD = {
        "": words(""), " ": words("", ""), "a": words("a"), "a ": words("a", ""), " a": words("", "a"),
        "a b": words("a", "b"), "a  b": words("a", "", "b"), '"a" ': words(["a"], ""),
        ' "a"': words("", ["a"]), 'a"b': words('a"b'),
        'a"b c"': words('a"b', 'c"'), '"a b" c': words(["a b"], "c"), "a\tb": words("a\tb"),
    }
    NONE = [
        '"', '"a', '"a""', '"""', '"a"b', '"a"b"', '"a""b', '"a"\t', '"a",', 'b "a', 'b "', '"a"" b', ' "a', ' "',
        '  "a b',
    ]

    def test_parted_by_one_blank(self):
        for row, told in self.TOLD.items():
            self.assertEqual(words_of(row), told, row)

    def test_quotes_that_do_not_end_or_end_amid_a_word(self):
        for row in self.NONE:
            self.assertIsNone(words_of(row), row)


class Rows(unittest.TestCase):
    def check(self, row, word, **slots):
        told = read_row(row)
        self.assertEqual(told[0], word)
        self.assertEqual({slot: told[1].get(slot) for slot in slots}, slots)
        names = ["KEY", "VALUE", "LOW", "HIGH", "STAMP", "N", "T", "DEEDS"]
        self.assertEqual([name for name in names if name in told[1] and name not in slots], [])

    def test_each_form(self):
        self.check('put "a" "x"', "put", KEY="a", VALUE="x")
        self.check('drop "a"', "drop", KEY="a")
        self.check('ask "a"', "ask", KEY="a")
        self.check('ask "a" at 7', "ask", KEY="a", STAMP=7)
        self.check('road "a"', "road", KEY="a")
        self.check('road "a" at 0', "road", KEY="a", STAMP=0)
        self.check("release 999999999", "release", STAMP=999999999)
        self.check("stop 10", "stop", N=10)
        self.check("stop 0 torn 0", "stop", N=0, T=0)
        for word in ["walk", "snapshot", "held", "pour", "files", "rise"]:
            self.check(word, word)

    def test_each_form_of_a_walk(self):
        for low, high, at in itertools.product([None, "", "a"], [None, "", "b"], [None, 0, 12]):
            row, slots = "walk", {}
            for slot, word, value in [("LOW", " from ", low), ("HIGH", " below ", high), ("STAMP", " at ", at)]:
                if value is not None:
                    slots[slot] = value
                    row += word + (str(value) if slot == "STAMP" else in_quotes(value))
            self.check(row, "walk", **slots)

    def test_batches(self):
        self.check('both drop "a"', "both", DEEDS=[("drop", "a")])
        self.check('both put "a" "x" , drop "b" , put "" ""', "both",
                   DEEDS=[("put", "a", "x"), ("drop", "b"), ("put", "", "")])
        self.check('both put " , " "put" , drop ","', "both", DEEDS=[("put", " , ", "put"), ("drop", ",")])
        deeds = [("put", f"k{number}", "v") for number in range(20)]
        self.check("both " + " , ".join(f'put "{deed[1]}" "v"' for deed in deeds), "both", DEEDS=deeds)

    def test_none(self):
        for row in ["", "a", "put", '"put" "a" "x"', "put KEY VALUE", "release 01", "release STAMP", "both",
                    'both ask "a"', "both ,", 'drop "a', "stop N", 'walk from "a" "b"', 'ask "a" at "0"',
                    "release 1234567890"]:
            self.assertIsNone(read_row(row), row)


if __name__ == "__main__":
    unittest.main()
