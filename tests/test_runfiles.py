"""[2.5], [2.6]: how runs are written and read, and what is refused."""

import random
import re
import unittest

from tierstore.errors import BadRun, BadSieve
from tierstore.runfiles import check_of, read_run, run_text
from tierstore.runs import is_run, run_of
from tierstore.sieves import read_sieve, sieve_of, sieve_text

ENTRIES = [("a", 9, ""), ("a", 7, None), ("ab", 12, "end 5"), ("b", 3, "x y")]
# The places of a, ab and b by 24 are 2, 20, 0; 16, 22, 2; 3, 21, 1.
SIEVE_ROW = "24:paaabh"
ROWS = ["run 4", SIEVE_ROW, "9 + 01a", "7 - 01a", "12 + 02abend 5", "3 + 01bx y"]


def reckoned(text):
    """The number at the end, reckoned by one great sum."""
    many = len(text)
    return (7 * 31 ** many + sum(ord(sign) * 31 ** (many - 1 - place) for place, sign in enumerate(text))) % 9973


def closed(rows):
    """The text of rows, with the right row at its end."""
    ahead = "".join(row + "\n" for row in rows)
    return ahead + f"end {reckoned(ahead)}\n"


def with_row(line, row, rows=ROWS):
    return closed(rows[:line - 1] + [row] + rows[line:])


def rows_of(text):
    return [row + "\n" for row in text.split("\n")[:-1]]


TEXT = closed(ROWS)


class Checks(unittest.TestCase):
    def test_no_sign(self):
        self.assertEqual(check_of(""), 7)

    def test_one_sign(self):
        # 7 * 31 = 217.
        self.assertEqual([check_of(sign) for sign in ["a", " ", "~", "\n", "\t"]], [314, 249, 343, 227, 226])

    def test_several_signs(self):
        # 314 * 31 + 98 = 9832; 9832 * 31 + 99 = 304891, less 30 * 9973 is 5701.
        self.assertEqual([check_of("ab"), check_of("abc")], [9832, 5701])

    def test_the_order_counts(self):
        # 315 * 31 + 97 = 9862.
        self.assertEqual(check_of("ba"), 9862)

    def test_a_row_sign_by_sign(self):
        # 331; 10378 - 9973; 12665 - 9973; 83484 - 8 * 9973; 114749 - 11 * 9973; 156436 - 15 * 9973.
        row = "run 1\n"
        self.assertEqual([check_of(row[:many]) for many in range(1, 7)], [331, 405, 2692, 3700, 5046, 6841])

    def test_all_signs(self):
        text = "".join(chr(number) for number in range(32, 127)) + "\t\n"
        for many in range(len(text)):
            self.assertEqual(check_of(text[:many] * 3), reckoned(text[:many] * 3))


class Written(unittest.TestCase):
    def say(self, entries, text):
        self.assertEqual(run_text(run_of(entries)), text)

    def test_an_entry_with_a_value(self):
        # By rows: 6841; then 2694 3788 7827 3383 5153; then 224 6976 6866 3445 7113 1146 5704 7403 124.
        self.say([("a", 1, "x")], "run 1\n8:fb\n1 + 01ax\nend 124\n")

    def test_an_empty_value(self):
        # As above up to the key, 5704; 5704 * 31 + 10 = 176834, less 17 * 9973 is 7293.
        self.say([("a", 1, "")], "run 1\n8:fb\n1 + 01a\nend 7293\n")

    def test_a_gone_entry(self):
        # As above up to the blank, 6976; then 6868 3507 9035 890 7741 629.
        self.say([("a", 1, None)], "run 1\n8:fb\n1 - 01a\nend 629\n")

    def test_the_number_nought_at_the_end(self):
        # t is 116: 176940 - 17 * 9973 = 7399, and 7399 * 31 + 10 = 23 * 9973 just so.
        self.say([("a", 1, "t")], "run 1\n8:fb\n1 + 01at\nend 0\n")

    def test_several_rows_in_order(self):
        self.say(list(reversed(ENTRIES)), TEXT)
        self.assertEqual(TEXT.split("\n")[:6], ROWS)
        # Behind the rows: 6934 7260 1475 7170 230 501.
        self.assertEqual(TEXT.split("\n")[6:], ["end 501", ""])

    def test_a_value_that_looks_like_a_row(self):
        for value in ["end 124", "run 1", "8:fb", "1 + 01ax", " ", "01a", "- 01a"]:
            self.say([("a", 1, value)], closed(["run 1", "8:fb", "1 + 01a" + value]))

    def test_figures_in_the_key_and_the_value(self):
        self.say([("1", 5, "2")], closed(["run 1", sieve_text(sieve_of(["1"])), "5 + 0112"]))
        self.say([("12", 5, "")], closed(["run 1", sieve_text(sieve_of(["12"])), "5 + 0212"]))

    def test_keys_of_several_lengths(self):
        for length, figures in [(1, "01"), (9, "09"), (10, "10"), (20, "20")]:
            key = "k" * length
            sieve = sieve_text(sieve_of([key]))
            self.say([(key, 12, "v")], closed(["run 1", sieve, "12 + " + figures + key + "v"]))
            self.say([(key, 12, None)], closed(["run 1", sieve, "12 - " + figures + key]))

    def test_blanks_at_the_ends_of_a_key(self):
        for key, figures in [(" ", "01"), (" a", "02"), ("a ", "02"), ("  a  ", "05"), (" " * 20, "20")]:
            sieve = sieve_text(sieve_of([key]))
            self.say([(key, 1, " v ")], closed(["run 1", sieve, "1 + " + figures + key + " v "]))
            self.say([(key, 1, None)], closed(["run 1", sieve, "1 - " + figures + key]))

    def test_the_least_and_the_greatest_stamp(self):
        rows = ["run 2", "8:fb", "999999999 + 01ax", "1 - 01a"]
        self.say([("a", 1, None), ("a", 999999999, "x")], closed(rows))

    def test_the_longest_value(self):
        self.say([("a", 1, "v" * 40)], closed(["run 1", "8:fb", "1 + 01a" + "v" * 40]))

    def test_the_run_stays_as_it_is(self):
        run = run_of(ENTRIES)
        run_text(run)
        self.assertEqual(run, run_of(ENTRIES))


class ReadBack(unittest.TestCase):
    def same(self, entries):
        run = run_of(entries)
        told = read_run(run_text(run))
        self.assertEqual(told, run)
        self.assertTrue(is_run(told))

    def test_a_text_reckoned_by_hand(self):
        self.assertEqual(read_run("run 1\n8:fb\n1 + 01ax\nend 124\n"), ((8, 21), (("a", 1, "x"),)))
        self.assertEqual(read_run("run 1\n8:fb\n1 - 01a\nend 629\n"), ((8, 21), (("a", 1, None),)))
        self.assertEqual(read_run("run 1\n8:fb\n1 + 01at\nend 0\n"), ((8, 21), (("a", 1, "t"),)))

    def test_several_rows(self):
        self.assertEqual(read_run(TEXT), (read_sieve(SIEVE_ROW), tuple(ENTRIES)))

    def test_values_of_all_forms(self):
        for value in [None, "", " ", "v" * 40, "end 1", "1 + 01ax", "run 1", "-", "+ 01a"]:
            self.same([("a", 1, value)])
            self.same([("a", 2, value), ("a", 1, value), ("a0", 2, value)])

    def test_keys_of_all_forms(self):
        for key in [" ", "~", "0", "01", "a ", " a", " " * 20, "k" * 9, "k" * 10, "k" * 20, "end 1", "- 01a"]:
            self.same([(key, 1, "value")])
            self.same([(key, 999999999, None), (key, 999999998, "")])

    def test_two_hundred_entries(self):
        values = [None if number % 5 == 0 else "v" * (number % 41) for number in range(200)]
        self.same([(f"key{number // 3}", number + 1, value) for number, value in enumerate(values)])

    def test_two_thousand_keys(self):
        self.same([(f"key{number}", number + 1, f"{number}") for number in range(2000)])

    def test_as_many_entries_as_may_be(self):
        self.same([("a", stamp, None) for stamp in range(1, 10000)])


class Refused(unittest.TestCase):
    def refuse(self, line, *texts):
        for text in texts:
            with self.subTest(text[:200]):
                with self.assertRaises(BadRun) as taken:
                    read_run(text)
                self.assertEqual(taken.exception.line, line)
                self.assertIs(type(taken.exception.line), int)

    def test_the_text_without_a_sign(self):
        self.refuse(1, "")

    def test_other_texts(self):
        self.refuse(1, "\n", " ", "\n\n", "end 7\n", "x", "\t")

    def test_each_row_left_out(self):
        rows = rows_of(TEXT)
        for place, line in enumerate([1, 2, 6, 6, 6, 6, 7]):
            self.refuse(line, "".join(rows[:place] + rows[place + 1:]))

    def test_each_row_left_out_with_the_right_number_at_the_end(self):
        for place, line in enumerate([1, 2, 6, 6, 6, 6]):
            self.refuse(line, closed(ROWS[:place] + ROWS[place + 1:]))

    def test_each_row_twice(self):
        rows = rows_of(TEXT)
        for place, line in enumerate([2, 3, 4, 5, 6, 7, 8]):
            self.refuse(line, "".join(rows[:place + 1] + rows[place:]))

    def test_each_row_exchanged_with_the_next(self):
        rows = rows_of(TEXT)
        for place, line in enumerate([1, 2, 4, 5, 6, 6]):
            self.refuse(line, "".join(rows[:place] + [rows[place + 1], rows[place]] + rows[place + 2:]))

    def test_a_text_cut_off_at_each_place(self):
        for place in range(len(TEXT)):
            self.refuse(TEXT[:place].count("\n") + 1, TEXT[:place])

    def test_something_behind_the_end(self):
        for behind in ["\n", " ", "x", "\t", "x\n", "\n\n", "end 124\n", TEXT, rows_of(TEXT)[6]]:
            self.refuse(8, TEXT + behind)
        self.refuse(5, "run 1\n8:fb\n1 + 01ax\nend 124\n\n")

    def test_many_entries_told_as_nought(self):
        self.refuse(1, with_row(1, "run 0"), closed(["run 0", "8:aa"]), "run 0\n")

    def test_many_entries_with_a_nought_ahead(self):
        self.refuse(1, with_row(1, "run 04"), with_row(1, "run 0004"), with_row(1, "run 00"))

    def test_more_entries_told_than_there_are(self):
        self.refuse(7, *[with_row(1, row) for row in ["run 5", "run 6", "run 40", "run 9999"]])

    def test_fewer_entries_told_than_there_are(self):
        self.refuse(6, with_row(1, "run 3"))
        self.refuse(5, with_row(1, "run 2"))
        self.refuse(4, with_row(1, "run 1"))

    def test_more_entries_told_than_may_be(self):
        self.refuse(1, *[with_row(1, row) for row in ["run 10000", "run 99999", "run " + "4" * 5000]])
        self.refuse(1, run_text(run_of([("a", stamp, None) for stamp in range(1, 10001)])))

    def test_other_first_rows(self):
        rows = ["", " ", "run", "run ", "run4", "run  4", "run\t4", " run 4", "run 4 ", "run 4\t", "Run 4", "runs 4"]
        rows += ["run 4x", "run x4", "run x", "run +4", "run -4", "run 4.0", "run 4_0", "run 4 4", "end 4", "4"]
        self.refuse(1, *[with_row(1, row) for row in rows])

    def test_a_sieve_that_is_none(self):
        rows = ["", " ", "24", "24:", ":", "24:paaab", "24:paaabha", "24:paaabq", "024:paaabh", " " + SIEVE_ROW]
        rows += [SIEVE_ROW + " ", "20:aaaaa", "0:", "24;paaabh", "24:PAAABH", "run 4", "sieve", "24:paaab\t"]
        self.refuse(2, *[with_row(2, row) for row in rows])

    def test_a_sieve_that_is_none_comes_ahead_of_all_rows_behind_it(self):
        self.refuse(2, "run 4\n24:\n", "run 1\n8:\nx\n", "run 4\n24:paaabq\n0 + 01a\n", "run 1\n\n\n\n")

    def test_a_sieve_of_other_keys_where_all_else_is_right(self):
        for keys in [["a", "ab"], ["a", "ab", "b", "c"], ["a", "ab", "c"], ["x", "y", "z"], [], ["a"]]:
            self.refuse(2, with_row(2, sieve_text(sieve_of(keys))))

    def test_a_sieve_with_one_bit_more_or_less_where_all_else_is_right(self):
        size, bits = read_sieve(SIEVE_ROW)
        for place in range(size):
            self.refuse(2, with_row(2, sieve_text((size, bits ^ (1 << place)))))

    def test_a_sieve_of_other_keys_where_an_entrys_row_is_wrong_too(self):
        rows = [ROWS[0], sieve_text(sieve_of(["x", "y", "z"]))] + ROWS[2:]
        for line in [3, 4, 5, 6]:
            self.refuse(line, with_row(line, "0 + 01a", rows))

    def test_a_sieve_of_other_keys_where_the_order_is_wrong_too(self):
        rows = [ROWS[0], sieve_text(sieve_of(["x", "y", "z"]))]
        self.refuse(4, closed(rows + [ROWS[3], ROWS[2], ROWS[4], ROWS[5]]))
        self.refuse(6, closed(rows + [ROWS[2], ROWS[3], ROWS[5], ROWS[4]]))

    def test_a_sieve_of_other_keys_where_the_end_is_wrong_too(self):
        self.refuse(7, TEXT.replace(SIEVE_ROW, "24:paaabp"), TEXT.replace(SIEVE_ROW, "8:fb"))
        self.refuse(7, with_row(2, "24:paaabp")[:-1])

    def test_a_sieve_of_other_keys_where_something_stands_behind_the_end(self):
        self.refuse(8, with_row(2, "24:paaabp") + "x", with_row(2, "24:paaabp") + "\n")

    def refuse_stamp(self, *stamps):
        for stamp in stamps:
            self.refuse(3, with_row(3, stamp + " + 01a"), closed(["run 1", "8:fb", stamp + " - 01a"]))
            self.refuse(6, with_row(6, stamp + " + 01bx y"))

    def test_the_stamp_nought(self):
        self.refuse_stamp("0", "00", "000000000")

    def test_a_stamp_with_a_nought_ahead(self):
        self.refuse_stamp("09", "009", "012", "000000009", "0999999999")

    def test_a_stamp_that_is_too_great(self):
        self.refuse_stamp("1000000000", "9999999999", "1" * 5000)

    def test_a_stamp_that_is_none(self):
        self.refuse_stamp("", " ", "x", "-9", "+9", "9.0", "1_0", "9x", " 9", "9 ", "\t9", "9\t", "True", "None")

    def test_another_sign_than_plus_and_minus(self):
        for sign in ["*", "p", " ", "0", "", "++", "--", "+-", "=", "\t"]:
            self.refuse(3, with_row(3, f"9 {sign} 01a"))
            self.refuse(4, with_row(4, f"7 {sign} 01a"))

    def test_blanks_that_are_not_as_told(self):
        rows = ["9+ 01a", "9 +01a", "9+01a", "9  + 01a", "9 +  01a", " 9 + 01a", "9\t+ 01a", "9 +\t01a", "9 + 0 1a"]
        rows += ["9_+ 01a", "9 +_01a"]
        self.refuse(3, *[with_row(3, row) for row in rows])

    def test_a_keys_length_of_nought(self):
        self.refuse(3, *[with_row(3, row) for row in ["9 + 00", "9 + 00a", "9 - 00", "9 - 00a"]])

    def test_a_keys_length_of_more_than_twenty(self):
        key = "a" * 21
        self.refuse(3, with_row(3, "9 + 21" + key), with_row(3, "9 - 21" + key), with_row(3, "9 + 21" + key + "x"))
        self.refuse(3, closed(["run 1", sieve_text(sieve_of([key])), "9 + 21" + key]))
        self.refuse(3, with_row(3, "9 + 99" + "a" * 99))

    def test_a_keys_length_of_other_signs(self):
        for figures in ["xx", "1x", "x1", " 1", "1 ", "+1", "-1", "1_", "\t1", "1", "", "a", "001", "1."]:
            self.refuse(3, with_row(3, f"9 + {figures}~"), with_row(3, f"9 - {figures}~"))

    def test_a_keys_length_beyond_the_row(self):
        rows = ["9 + 02a", "9 + 20a", "9 + 01", "9 - 02a", "9 - 01", "9 + 99a"]
        rows += ["9 + 20" + "a" * 19, "9 - 20" + "a" * 19]
        self.refuse(3, *[with_row(3, row) for row in rows])

    def test_a_row_that_ends_too_early(self):
        for many in range(len("9 + 01")):
            self.refuse(3, with_row(3, "9 + 01"[:many]), with_row(3, "9 - 01"[:many]))

    def test_a_key_that_is_none(self):
        self.refuse(3, with_row(3, "9 + 01\t"), with_row(3, "9 - 01\t"), with_row(3, "9 + 03a\tax"))
        self.refuse(6, with_row(6, "3 + 01\tx"), with_row(6, "3 - 02b\t"))

    def test_a_value_that_is_none(self):
        self.refuse(3, with_row(3, "9 + 01a\t"), with_row(3, "9 + 01a" + "v" * 41), with_row(3, "9 + 01av\tv"))
        self.refuse(6, with_row(6, "3 + 01b" + "v" * 41), with_row(6, "3 + 01b" + "v" * 1000))

    def test_a_value_behind_a_gone_entry(self):
        self.refuse(4, *[with_row(4, row) for row in ["7 - 01ax", "7 - 01a ", "7 - 01a\t", "7 - 01a01a"]])

    def test_an_entry_twice_with_another_value(self):
        self.refuse(4, with_row(4, "9 - 01a"), with_row(4, "9 + 01a"), with_row(4, "9 + 01ax"))

    def test_a_greater_stamp_behind_a_lesser_one(self):
        self.refuse(4, with_row(4, "10 - 01a"), with_row(4, "999999999 + 01a"))
        self.refuse(5, with_row(5, "8 + 01a"))

    def test_a_key_behind_a_greater_one(self):
        self.refuse(5, with_row(5, "12 + 01 x"), with_row(5, "12 + 01Ax"))
        self.refuse(6, with_row(6, "3 + 02aax y"), with_row(6, "3 + 01ax y"), with_row(6, "12 + 02abx y"))

    def test_another_number_at_the_end(self):
        ahead = "".join(rows_of(TEXT)[:6])
        right = reckoned(ahead)
        for number in [right - 1, right + 1, right + 9973, -right, 7, 0, 9972, 9973]:
            self.refuse(7, f"{ahead}end {number}\n")
        self.refuse(7, f"{ahead}end {'1' * 5000}\n")

    def test_a_number_at_the_end_that_is_reckoned_from_less_or_more(self):
        ahead = "".join(rows_of(TEXT)[:6])
        for text in [ahead[:-1], ahead + "end ", TEXT, ahead.replace("\n", ""), ahead.partition("\n")[2]]:
            self.refuse(7, f"{ahead}end {reckoned(text)}\n")

    def test_a_number_at_the_end_with_a_nought_ahead(self):
        self.refuse(7, TEXT.replace(rows_of(TEXT)[6], f"end 0{reckoned(''.join(rows_of(TEXT)[:6]))}\n"))
        self.refuse(4, "run 1\n8:fb\n1 + 01ax\nend 0124\n", "run 1\n8:fb\n1 + 01at\nend 00\n")

    def test_other_last_rows(self):
        rows = ["", "end", "end ", "end  124", "end\t124", " end 124", "end 124 ", "end +124", "End 124", "124"]
        for row in rows:
            self.refuse(4, f"run 1\n8:fb\n1 + 01ax\n{row}\n")
        self.refuse(4, "run 1\n8:fb\n1 + 01at\nend \n", "run 1\n8:fb\n1 + 01at\nend -0\n")

    def test_the_end_without_its_line_end(self):
        self.refuse(4, "run 1\n8:fb\n1 + 01ax\nend 124", "run 1\n8:fb\n1 + 01ax\nend 124 \n")

    def test_an_empty_row_between(self):
        rows = rows_of(TEXT)
        for place in range(7):
            self.refuse(place + 1, "".join(rows[:place] + ["\n"] + rows[place:]))

    def test_the_first_of_several_wrong_rows_counts(self):
        for line in range(1, 7):
            rows = ROWS[:line - 1] + ["wrong"] * (7 - line)
            self.refuse(line, "".join(row + "\n" for row in rows) + "end 1\nbehind\n")


def entry_of(row):
    """The entry of a row, read by a pattern; None where it is none."""
    match = re.fullmatch(r"([1-9][0-9]{0,8}) ([+-]) (0[1-9]|1[0-9]|20)([ -~]*)", row)
    if match is None:
        return None
    key, value = match[4][:int(match[3])], match[4][int(match[3]):]
    if len(key) < int(match[3]) or len(value) > 40 or (match[2] == "-" and value):
        return None
    return (key, int(match[1]), value if match[2] == "+" else None)


def wrong_line(text):
    """The first row that is wrong, told by the words of [2.6] one by one; 0 where none is."""
    rows = re.findall(r"[^\n]*\n", text)
    lines = [row[:-1] for row in rows] + [None]
    head = re.fullmatch(r"run ([1-9][0-9]{0,3})", lines[0] or "")
    if head is None:
        return 1
    try:
        sieve = read_sieve(lines[1] or "")
    except BadSieve:
        return 2
    entries = []
    for line in range(3, int(head[1]) + 3):
        entry = entry_of(lines[line - 1] or "") if line <= len(rows) else None
        if entry is None:
            return line
        if entries and not (entries[-1][0] < entry[0] or (entries[-1][0] == entry[0] and entries[-1][1] > entry[1])):
            return line
        entries.append(entry)
    last = len(entries) + 3
    if last > len(rows) or lines[last - 1] != f"end {reckoned(''.join(rows[:last - 1]))}":
        return last
    if text != "".join(rows[:last]):
        return last + 1
    return 0 if sieve == sieve_of([entry[0] for entry in entries]) else 2


class ManyTexts(unittest.TestCase):
    SIGNS = " ~ab019+-:e\n\t"

    def agree(self, text):
        try:
            run, line = read_run(text), 0
        except BadRun as taken:
            run, line = None, taken.line
        self.assertEqual(line, wrong_line(text), text)
        if run is not None:
            self.assertEqual(run_text(run), text)

    def test_each_sign_changed_left_out_or_put_in(self):
        for place in range(len(TEXT) + 1):
            self.agree(TEXT[:place] + TEXT[place + 1:])
            for sign in self.SIGNS:
                self.agree(TEXT[:place] + sign + TEXT[place + 1:])
                self.agree(TEXT[:place] + sign + TEXT[place:])

    def test_each_sign_changed_with_the_right_number_at_the_end(self):
        for line, row in enumerate(ROWS, 1):
            for place in range(len(row) + 1):
                self.agree(with_row(line, row[:place] + row[place + 1:]))
                for sign in self.SIGNS:
                    self.agree(with_row(line, row[:place] + sign + row[place + 1:]))
                    self.agree(with_row(line, row[:place] + sign + row[place:]))

    def test_several_changes_by_a_fixed_chance(self):
        chance = random.Random(5)
        for _ in range(2000):
            rows = list(ROWS)
            for _ in range(chance.randint(1, 3)):
                line = chance.randrange(len(rows))
                place = chance.randint(0, len(rows[line]))
                rows[line] = rows[line][:place] + chance.choice(self.SIGNS) + rows[line][place + chance.randint(0, 1):]
            self.agree(closed(rows) + chance.choice(["", "", "x"]))


if __name__ == "__main__":
    unittest.main()
