"""[5.4] to [5.7]: the tiers, how they are written, read and refused, and the names of runs' files."""

import random
import re
import unittest

from tierstore.errors import BadTiers
from tierstore.tiers import name_of, numbers_of, read_tiers, tiers_text

NONE_YET = (1, 0, ((), (), ()))
TIERS = (20, 37, ((12, 3, 19, 5), (7,), (1,)))
LINES = ["fresh 20", "poured 37", "tier 12 3 19 5", "tier 7", "tier 1"]
SPELT = [
    (NONE_YET, "fresh 1\npoured 0\ntier\ntier\ntier\n"),
    (TIERS, "fresh 20\npoured 37\ntier 12 3 19 5\ntier 7\ntier 1\n"),
    ((2, 1, ((1,), (), ())), "fresh 2\npoured 1\ntier 1\ntier\ntier\n"),
    ((2, 1, ((), (1,), ())), "fresh 2\npoured 1\ntier\ntier 1\ntier\n"),
    ((2, 1, ((), (), (1,))), "fresh 2\npoured 1\ntier\ntier\ntier 1\n"),
    ((9, 8, ((), (3,), (8,))), "fresh 9\npoured 8\ntier\ntier 3\ntier 8\n"),
    ((9, 8, ((3,), (), (8,))), "fresh 9\npoured 8\ntier 3\ntier\ntier 8\n"),
    ((9, 8, ((8, 3), (1,), ())), "fresh 9\npoured 8\ntier 8 3\ntier 1\ntier\n"),
    ((9, 8, ((3, 8), (1,), ())), "fresh 9\npoured 8\ntier 3 8\ntier 1\ntier\n"),
    ((10, 100, ((9,), (), ())), "fresh 10\npoured 100\ntier 9\ntier\ntier\n"),
    ((9999999, 999999999, ((9999998, 1), (9999997,), (1000000,))),
     "fresh 9999999\npoured 999999999\ntier 9999998 1\ntier 9999997\ntier 1000000\n"),
]


def text_of(lines):
    return "".join(line + "\n" for line in lines)


def with_line(number, line):
    return text_of(LINES[:number - 1] + [line] + LINES[number:])


def first_wrong_line(text):
    """The number of the first wrong line, 0 of none, by patterns."""
    rows = re.findall(r"[^\n]*\n|[^\n]+\Z", text)
    number, tier = "(0|[1-9][0-9]*)\n", "tier((?: [1-9][0-9]*)*)\n"
    taken = [0]
    for line in range(1, 6):
        row = rows[line - 1] if line <= len(rows) else ""
        match = re.fullmatch(["fresh " + number, "poured " + number, tier, tier, tier][line - 1], row)
        if match is None:
            return line
        if line == 1:
            fresh = int(match[1])
        if line == 1 and not 1 <= fresh <= 9999999 or line == 2 and not 0 <= int(match[1]) <= 999999999:
            return line
        told = [int(word) for word in match[1].split()] if line > 2 else []
        if len(told) > (1 if line > 3 else len(told)) or [one for one in told if one >= fresh]:
            return line
        taken += told
        if sorted(taken) != sorted(set(taken)):
            return line
    return 6 if len(rows) > 5 else 0


class Written(unittest.TestCase):
    def test_spelt_by_hand(self):
        for tiers, text in SPELT:
            self.assertEqual(tiers_text(tiers), text)

    def test_a_long_first_row(self):
        numbers = tuple(range(300, 0, -1))
        text = "fresh 301\npoured 5\ntier " + " ".join(str(number) for number in numbers) + "\ntier\ntier\n"
        self.assertEqual(tiers_text((301, 5, (numbers, (), ()))), text)
        self.assertEqual(read_tiers(text), (301, 5, (numbers, (), ())))


class Read(unittest.TestCase):
    def test_spelt_by_hand(self):
        for tiers, text in SPELT:
            self.assertEqual(read_tiers(text), tiers)

    def test_the_kinds_of_what_is_told(self):
        fresh, poured, rows = read_tiers(text_of(LINES))
        self.assertEqual([type(thing) for thing in (fresh, poured, rows)], [int, int, tuple])
        self.assertEqual([type(row) for row in rows], [tuple, tuple, tuple])
        self.assertEqual({type(number) for row in rows for number in row}, {int})

    def test_the_bounds_of_fresh(self):
        for fresh in [1, 9, 10, 9999998, 9999999]:
            self.assertEqual(read_tiers(f"fresh {fresh}\npoured 0\ntier\ntier\ntier\n"), (fresh, 0, ((), (), ())))

    def test_the_bounds_of_poured(self):
        for poured in [0, 1, 10, 999999998, 999999999]:
            self.assertEqual(read_tiers(f"fresh 1\npoured {poured}\ntier\ntier\ntier\n"), (1, poured, ((), (), ())))

    def test_the_bounds_of_a_number(self):
        for number in [1, 9, 10, 19]:
            for row in range(3):
                rows = [(), (), ()]
                rows[row] = (number,)
                lines = LINES[:2] + ["tier", "tier", "tier"]
                lines[2 + row] = f"tier {number}"
                self.assertEqual(read_tiers(text_of(lines)), (20, 37, tuple(rows)))

    def test_what_is_written_is_read_to_the_same(self):
        chance = random.Random(55)
        for case in range(500):
            fresh = chance.choice([1, 2, 5, 30, 9999999])
            numbers = chance.sample(range(1, fresh), chance.randint(0, min(fresh - 1, 12)))
            second, third = chance.randint(0, 1), chance.randint(0, 1)
            rows = (tuple(numbers[2:]), tuple(numbers[:second]), tuple(numbers[1:1 + third]))
            tiers = (fresh, chance.choice([0, 1, 77, 999999999]), rows)
            self.assertEqual(read_tiers(tiers_text(tiers)), tiers)


class Refused(unittest.TestCase):
    def wrong(self, text, line):
        with self.assertRaises(BadTiers, msg=text) as caught:
            read_tiers(text)
        self.assertEqual(caught.exception.line, line, text)

    def wrong_line(self, number, *lines):
        for line in lines:
            self.wrong(with_line(number, line), number)

    def test_the_lines_that_are_changed_below_are_right(self):
        self.assertEqual(read_tiers(text_of(LINES)), TIERS)

    def test_the_empty_text(self):
        self.wrong("", 1)

    def test_only_line_ends(self):
        for many in range(1, 8):
            self.wrong("\n" * many, 1)

    def test_each_line_left_out(self):
        self.wrong(text_of(LINES[1:]), 1)
        self.wrong(text_of(LINES[:1] + LINES[2:]), 2)
        # Without the first row of a tier the second one takes its place, and so on: the fifth is not there.
        self.wrong(text_of(LINES[:2] + LINES[3:]), 5)
        self.wrong(text_of(LINES[:3] + LINES[4:]), 5)
        self.wrong(text_of(LINES[:4]), 5)

    def test_all_lines_behind_one_left_out(self):
        for many in range(5):
            self.wrong(text_of(LINES[:many]), many + 1)

    def test_each_line_twice(self):
        for number, line in [(1, 2), (2, 3), (3, 4), (4, 5), (5, 6)]:
            self.wrong(text_of(LINES[:number] + LINES[number - 1:]), line)

    def test_an_empty_row_twice(self):
        lines = ["fresh 1", "poured 0", "tier", "tier", "tier"]
        self.wrong(text_of(lines + ["tier"]), 6)

    def test_each_line_exchanged_with_the_next(self):
        self.wrong(text_of([LINES[1], LINES[0]] + LINES[2:]), 1)
        self.wrong(text_of([LINES[0], LINES[2], LINES[1]] + LINES[3:]), 2)
        self.wrong(text_of(LINES[:2] + [LINES[3], LINES[2], LINES[4]]), 4)
        exchanged = text_of(LINES[:3] + [LINES[4], LINES[3]])
        # Two rows of one number each are right in either order.
        self.assertEqual(read_tiers(exchanged), (20, 37, ((12, 3, 19, 5), (1,), (7,))))

    def test_a_text_cut_off_at_each_place(self):
        for tiers, text in SPELT:
            for cut in range(len(text)):
                self.wrong(text[:cut], text[:cut].count("\n") + 1)

    def test_something_behind_the_fifth_line(self):
        for rest in ["\n", " ", "x", "tier", "tier\n", "fresh 1\n", "0", "\n\n", "\t", text_of(LINES)]:
            self.wrong(text_of(LINES) + rest, 6)
            self.wrong(SPELT[0][1] + rest, 6)

    def test_something_ahead_of_the_first_line(self):
        for ahead in ["\n", " ", "x", "tier\n", "\t"]:
            self.wrong(ahead + text_of(LINES), 1)

    def test_another_word(self):
        self.wrong_line(1, "Fresh 20", "fres 20", "freshh 20", "poured 20", "tier 20", "20", "", "fresh", "f 20")
        self.wrong_line(2, "Poured 37", "poure 37", "pouredd 37", "fresh 37", "tier 37", "37", "", "poured")
        for number in [3, 4, 5]:
            self.wrong_line(number, "Tier 2", "tie 2", "tiers 2", "tierr", "fresh 2", "poured 2", "2", " 2", "", "x")
            self.wrong_line(number, "tier2", "tier\t2", "Tier", "tie", "tier:", "tier 2 tier", "tier tier")

    def test_two_blanks(self):
        self.wrong_line(1, "fresh  20", " fresh 20", "fresh 2 0")
        self.wrong_line(2, "poured  37", " poured 37", "poured 3 7")
        self.wrong_line(3, "tier  12 3 19 5", "tier 12  3 19 5", "tier 12 3 19  5", " tier 12")
        for number in [4, 5]:
            self.wrong_line(number, "tier  2", " tier 2", " tier", "tier  ")

    def test_no_blank(self):
        self.wrong_line(1, "fresh20")
        self.wrong_line(2, "poured37")
        for number in [3, 4, 5]:
            self.wrong_line(number, "tier2")

    def test_a_blank_at_a_lines_end(self):
        for number in range(1, 6):
            self.wrong_line(number, LINES[number - 1] + " ")
        for number in [3, 4, 5]:
            self.wrong_line(number, "tier ")
        self.wrong_line(1, "fresh ")
        self.wrong_line(2, "poured ")

    def test_fresh_out_of_its_bounds(self):
        self.wrong_line(1, "fresh 0", "fresh 10000000", "fresh 99999999", "fresh -1", "fresh " + "9" * 5000)

    def test_poured_out_of_its_bounds(self):
        self.wrong_line(2, "poured 1000000000", "poured 9999999999", "poured -1", "poured " + "9" * 5000)

    def test_noughts_ahead(self):
        self.wrong_line(1, "fresh 020", "fresh 00", "fresh 01", "fresh 0000020")
        self.wrong_line(2, "poured 037", "poured 00", "poured 01", "poured 000000037")
        for number in [3, 4, 5]:
            self.wrong_line(number, "tier 02", "tier 00", "tier 0002")
        self.wrong_line(3, "tier 12 03 19 5", "tier 12 3 19 05")

    def test_a_number_of_a_run_that_is_nought(self):
        for number in [3, 4, 5]:
            self.wrong_line(number, "tier 0")
        self.wrong_line(3, "tier 0 12", "tier 12 0 3", "tier 12 3 0")

    def test_a_number_of_a_run_that_is_fresh_or_above_it(self):
        for number in [3, 4, 5]:
            self.wrong_line(number, "tier 20", "tier 21", "tier 99", "tier 100", "tier 9999999", "tier " + "9" * 5000)
        self.wrong_line(3, "tier 20 12", "tier 12 20 3", "tier 12 3 20")
        for number in [3, 4, 5]:
            lines = ["fresh 1", "poured 0", "tier", "tier", "tier"]
            lines[number - 1] = "tier 1"
            self.wrong(text_of(lines), number)

    def test_a_number_that_stood_ahead_in_its_row(self):
        self.wrong_line(3, "tier 12 12", "tier 12 3 12", "tier 3 12 12", "tier 2 3 4 5 6 2")

    def test_a_number_that_stood_ahead_in_another_row(self):
        for number in [12, 3, 19, 5]:
            self.wrong_line(4, f"tier {number}")
            self.wrong_line(5, f"tier {number}")
        self.wrong_line(5, "tier 7")

    def test_a_second_number_in_the_second_and_in_the_third_row(self):
        for number in [4, 5]:
            self.wrong_line(number, "tier 2 4", "tier 4 2", "tier 2 2", "tier 2 4 6")

    def test_signs_that_are_no_figures(self):
        for word in ["x", "+2", "-2", "2x", "x2", "2_0", "2.0", "2\t", ",", "2,4", "0x2", ":", "/", "two", "None"]:
            self.wrong_line(1, "fresh " + word)
            self.wrong_line(2, "poured " + word)
            self.wrong_line(3, "tier " + word, "tier " + word + " 12", "tier 12 " + word, "tier 12 " + word + " 3")
            self.wrong_line(4, "tier " + word)
            self.wrong_line(5, "tier " + word)

    def test_the_first_of_several_wrong_lines(self):
        for number in range(1, 6):
            self.wrong(text_of(LINES[:number - 1] + ["x"] * (6 - number)), number)
            self.wrong(text_of(LINES[:number - 1] + ["x"] * (7 - number)) + "x", number)
        self.wrong("fresh 0\npoured 0\ntier 1\ntier\ntier\n\n", 1)
        self.wrong("fresh 3\npoured 0\ntier 1\ntier 1\ntier 1\n\n", 4)


class EachChange(unittest.TestCase):
    """One sign changed, left out or put in, at each place, and more of them: refused as by patterns."""

    SIGNS = "0123456789 \n\tfpx"

    def check(self, text):
        line = first_wrong_line(text)
        try:
            told = read_tiers(text)
            self.assertEqual(line, 0, text)
            self.assertEqual(tiers_text(told), text)
        except BadTiers as e:
            self.assertEqual(e.line, line, text)

    def test_changed_and_put_in(self):
        for tiers, text in SPELT:
            for place in range(len(text) + 1):
                for sign in self.SIGNS:
                    self.check(text[:place] + sign + text[place + 1:])
                    self.check(text[:place] + sign + text[place:])

    def test_left_out(self):
        for tiers, text in SPELT:
            for place in range(len(text)):
                for many in range(1, 9):
                    self.check(text[:place] + text[place + many:])

    def test_lines_as_they_come(self):
        chance = random.Random(56)
        words = ["tier", "tier", "tier", "fresh", "poured", "1", "2", "3", "4", "5", "10", "0", "02", "", "x"]
        for case in range(3000):
            lines = [f"fresh {chance.choice([1, 2, 5, 20])}", f"poured {chance.choice([0, 7])}"]
            for number in range(chance.choice([3, 3, 3, 2, 4])):
                own = chance.choices(words, k=chance.randint(0, 3))
                lines.append(" ".join(["tier"] + own if chance.random() < 0.9 else own))
            self.check(text_of(lines))


class Numbers(unittest.TestCase):
    def test_rising(self):
        told = {NONE_YET: [], TIERS: [1, 3, 5, 7, 12, 19], (9, 0, ((8, 2, 5), (), (4,))): [2, 4, 5, 8]}
        for tiers, numbers in told.items():
            self.assertEqual(numbers_of(tiers), numbers)

    def test_of_one_row_alone(self):
        for rows in [((4,), (), ()), ((), (4,), ()), ((), (), (4,))]:
            self.assertEqual(numbers_of((9, 0, rows)), [4])

    def test_they_rise_as_numbers(self):
        self.assertEqual(numbers_of((9999999, 0, ((100, 9, 20), (1000,), (8,)))), [8, 9, 20, 100, 1000])

    def test_what_is_told_is_a_new_list(self):
        told = numbers_of(TIERS)
        self.assertIs(type(told), list)
        told.append(99)
        self.assertEqual(numbers_of(TIERS), [1, 3, 5, 7, 12, 19])


class Names(unittest.TestCase):
    def test_seven_figures(self):
        told = {1: "run0000001", 12: "run0000012", 9: "run0000009", 100: "run0000100", 9999999: "run9999999",
                1234567: "run1234567", 1000000: "run1000000"}
        for number, name in told.items():
            self.assertEqual(name_of(number), name)


if __name__ == "__main__":
    unittest.main()
