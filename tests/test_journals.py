"""[4.3], [4.4], [4.5]: records, and the journal in which they stand one behind the other."""

import random
import re
import unittest

from tierstore.errors import BadDeed, BadJournal, BadStamp, TierError
from tierstore.journals import read_journal, record, whole_end

PUT = ("put", "a", "x")
DROP = ("drop", "a")
NO_DEEDS = [
    None, True, 1, "put", "pax", (), [], ["put", "a", "x"], ("put", "a"), ("drop", "a", "x"), ("put", "a", None),
    ("put", "", "x"), ("put", "k" * 21, "x"), ("put", "a", "v" * 41), ("put", "a\n", "x"), ("put", "a", "x\n"),
    ("drop", ""), ("drop", "k" * 21), ("drop", 1), ("drop", None), ("Put", "a", "x"), ("p", "a", "x"), ("g", "a"),
    ("a", 1, "x"), ("put", "a", "x", 1), ("drop",), ("put", True, "x"), ("put", "a", True),
]

FIRST = "000000007 01 00006\np01ax\n"
SECOND = "000000003 03 00023\ng02ab\np01bp01ax\np03 c \n"
THIRD = "000000007 02 00013\np01a \ng03g01\n"
JOURNAL = FIRST + SECOND + THIRD
RECORDS = [
    (7, [("put", "a", "x")]),
    (3, [("drop", "ab"), ("put", "b", "p01ax"), ("put", " c ", "")]),
    (7, [("put", "a", " "), ("drop", "g01")]),
]
ENDS = [0, 25, 67, 99]


def with_body(many, body, stamp=5):
    """A record whose head tells just how long its body is."""
    return f"{stamp:09} {many:02} {len(body):05}\n{body}"


HEAD = re.compile(r"(?!0{9})([0-9]{9}) (?!00)([01][0-9]|20) ([0-9]{5})\n")
ROW = re.compile(r"p([0-9]{2})([ -~]*)|g([0-9]{2})([ -~]*)")


def deed_of(row):
    match = ROW.fullmatch(row)
    if match is None:
        return None
    if match[1] is None:
        return ("drop", match[4]) if 1 <= int(match[3]) == len(match[4]) <= 20 else None
    key, value = match[2][:int(match[1])], match[2][int(match[1]):]
    return ("put", key, value) if 1 <= int(match[1]) == len(key) <= 20 and len(value) <= 40 else None


def read_otherwise(text):
    """The records and the end of a journal, or the place of the first wrong record, read by patterns."""
    records, place = [], 0
    while len(text[place:]) >= 19:
        head = HEAD.match(text, place)
        if head is None:
            return place
        rest = text[head.end():]
        if len(rest) < int(head[3]):
            break
        rows = rest[:int(head[3])].split("\n")
        deeds = [deed_of(row) for row in rows[:-1]]
        if rows[-1] != "" or len(deeds) != int(head[2]) or None in deeds:
            return place
        records.append((int(head[1]), deeds))
        place = head.end() + int(head[3])
    return (records, place)


class Spelt(unittest.TestCase):
    def say(self, stamp, deeds, text):
        self.assertEqual(record(stamp, deeds), text)
        self.assertEqual(read_journal(text), [(stamp, deeds)])

    def test_one_put(self):
        self.say(1, [("put", "a", "x")], "000000001 01 00006\np01ax\n")

    def test_one_drop(self):
        self.say(12, [("drop", "a")], "000000012 01 00005\ng01a\n")

    def test_an_empty_value(self):
        self.say(12, [("put", "a", "")], "000000012 01 00005\np01a\n")

    def test_the_least_and_the_greatest_stamp(self):
        self.say(1, [("drop", "a")], "000000001 01 00005\ng01a\n")
        self.say(999999999, [("drop", "a")], "999999999 01 00005\ng01a\n")

    def test_several_deeds_in_their_order(self):
        for text, told in zip([FIRST, SECOND, THIRD], RECORDS):
            self.say(told[0], told[1], text)

    def test_two_deeds_of_one_key(self):
        self.say(4, [("put", "a", "x"), ("drop", "a")], "000000004 02 00011\np01ax\ng01a\n")
        self.say(4, [("drop", "a"), ("put", "a", "x")], "000000004 02 00011\ng01a\np01ax\n")
        self.say(4, [("drop", "a"), ("drop", "a")], "000000004 02 00010\ng01a\ng01a\n")

    def test_nine_ten_and_twenty_deeds(self):
        self.say(7, [("put", "k", "v")] * 9, "000000007 09 00054\n" + "p01kv\n" * 9)
        self.say(7, [("put", "k", "v")] * 10, "000000007 10 00060\n" + "p01kv\n" * 10)
        self.say(7, [("put", "k", "v"), ("drop", "kk")] * 10, "000000007 20 00120\n" + "p01kv\ng02kk\n" * 10)

    def test_keys_of_several_lengths(self):
        rows = [("k", "01"), ("k" * 9, "09"), ("k" * 10, "10"), ("k" * 20, "20")]
        heads = [("00005", "00006"), ("00013", "00014"), ("00014", "00015"), ("00024", "00025")]
        for (key, figures), (dropped, put) in zip(rows, heads):
            self.say(1, [("drop", key)], f"000000001 01 {dropped}\ng{figures}{key}\n")
            self.say(1, [("put", key, "v")], f"000000001 01 {put}\np{figures}{key}v\n")

    def test_blanks_at_the_ends_of_a_key(self):
        rows = [(" ", "01 "), (" a", "02 a"), ("a ", "02a "), ("  a  ", "05  a  "), (" " * 20, "20" + " " * 20)]
        for key, row in rows:
            self.say(5, [("drop", key)], with_body(1, "g" + row + "\n"))
            self.say(5, [("put", key, " v ")], with_body(1, "p" + row + " v \n"))
        self.say(5, [("put", " ", " ")], "000000005 01 00006\np01  \n")

    def test_a_value_of_forty_signs(self):
        self.say(5, [("put", "a", "v" * 40)], "000000005 01 00045\np01a" + "v" * 40 + "\n")
        self.say(5, [("put", "a", " " * 40)], "000000005 01 00045\np01a" + " " * 40 + "\n")

    def test_the_longest_record(self):
        deeds = [("put", "k" * 20, "v" * 40)] * 20
        self.say(5, deeds, "000000005 20 01280\n" + ("p20" + "k" * 20 + "v" * 40 + "\n") * 20)

    def test_figures_and_letters_that_look_like_a_row(self):
        self.say(5, [("put", "1", "2")], "000000005 01 00006\np0112\n")
        self.say(5, [("put", "12", "")], "000000005 01 00006\np0212\n")
        self.say(5, [("put", "p01a", "g01a")], "000000005 01 00012\np04p01ag01a\n")

    def test_each_sign(self):
        signs = [chr(number) for number in range(32, 127) if chr(number) != "%"]
        for sign in signs:
            self.say(5, [("put", sign, sign), ("drop", sign)], f"000000005 02 00011\np01{sign}{sign}\ng01{sign}\n")

    def test_the_list_stays_as_it_is(self):
        deeds = [("put", "b", "x"), ("drop", "a"), ("put", "a", "")]
        record(5, deeds)
        self.assertEqual(deeds, [("put", "b", "x"), ("drop", "a"), ("put", "a", "")])


class RefusedRecords(unittest.TestCase):
    NO_STAMPS = [0, -1, 1000000000, 10 ** 5000, True, False, "1", "000000001", "", None, [1], (1,), {}, [], PUT, 1.0]

    def refused(self, kind, stamp, deeds):
        with self.assertRaises(TierError) as caught:
            record(stamp, deeds)
        self.assertIs(type(caught.exception), kind)

    def test_no_stamp(self):
        for stamp in self.NO_STAMPS:
            self.refused(BadStamp, stamp, [PUT])

    def test_no_stamp_where_the_deeds_are_none_too(self):
        for stamp in self.NO_STAMPS:
            for deeds in [[], [PUT] * 21, [None], (PUT,), None, PUT]:
                self.refused(BadStamp, stamp, deeds)

    def test_no_deed_at_all(self):
        self.refused(BadDeed, 1, [])

    def test_twenty_one_deeds(self):
        self.refused(BadDeed, 1, [PUT] * 21)
        self.refused(BadDeed, 999999999, [DROP] * 21)

    def test_a_deed_that_is_none_by_itself(self):
        for thing in NO_DEEDS:
            self.refused(BadDeed, 1, [thing])

    def test_a_deed_that_is_none_at_the_first_place(self):
        for thing in NO_DEEDS:
            self.refused(BadDeed, 1, [thing, PUT, DROP])

    def test_a_deed_that_is_none_at_a_middle_place(self):
        for thing in NO_DEEDS:
            self.refused(BadDeed, 1, [PUT, thing, DROP])

    def test_a_deed_that_is_none_at_the_last_place(self):
        for thing in NO_DEEDS:
            self.refused(BadDeed, 1, [PUT, DROP, thing])
            self.refused(BadDeed, 1, [PUT] * 19 + [thing])

    def test_a_tuple_of_deeds(self):
        for deeds in [(PUT,), (PUT, DROP), ()]:
            self.refused(BadDeed, 1, deeds)

    def test_other_things_in_the_place_of_the_list(self):
        for thing in [None, True, 1, "", "put", PUT, DROP, {}, {PUT: DROP}, {PUT}, object()]:
            self.refused(BadDeed, 1, thing)


class Whole(unittest.TestCase):
    def say(self, text, records, end):
        self.assertEqual(read_journal(text), records)
        self.assertEqual(whole_end(text), end)

    def test_the_empty_journal(self):
        self.say("", [], 0)

    def test_one_record(self):
        self.say(FIRST, RECORDS[:1], 25)
        self.say(SECOND, RECORDS[1:2], 42)

    def test_several_records(self):
        self.say(FIRST + SECOND, RECORDS[:2], 67)
        self.say(JOURNAL, RECORDS, 99)

    def test_stamps_that_fall_or_are_alike(self):
        for stamps in [[1, 2, 3], [3, 2, 1], [5, 5, 5], [999999999, 1, 999999999], [2, 9, 4]]:
            text = "".join(with_body(1, "g01a\n", stamp) for stamp in stamps)
            self.say(text, [(stamp, [DROP]) for stamp in stamps], 72)

    def test_the_same_record_again_and_again(self):
        self.say(FIRST * 40, RECORDS[:1] * 40, 1000)

    def test_the_kinds_of_what_is_told(self):
        told = read_journal(JOURNAL)
        self.assertIs(type(told), list)
        self.assertEqual({(type(one), type(one[0]), type(one[1])) for one in told}, {(tuple, int, list)})
        self.assertEqual({type(deed) for one in told for deed in one[1]}, {tuple})

    def test_what_is_told_is_the_askers_own(self):
        told = read_journal(FIRST + FIRST)
        told[0][1].append(DROP)
        told.append(None)
        self.assertEqual(told[1], RECORDS[0])
        self.assertEqual(read_journal(FIRST + FIRST), RECORDS[:1] * 2)

    def test_sixty_thousand_signs(self):
        text = FIRST * 2400
        self.say(text, RECORDS[:1] * 2400, 60000)
        self.say(text[:-1], RECORDS[:1] * 2399, 59975)


class CutOff(unittest.TestCase):
    def test_at_each_place(self):
        for cut in range(len(JOURNAL) + 1):
            whole = len([end for end in ENDS[1:] if end <= cut])
            self.assertEqual(read_journal(JOURNAL[:cut]), RECORDS[:whole], cut)
            self.assertEqual(whole_end(JOURNAL[:cut]), ENDS[whole], cut)

    def test_records_of_many_kinds_at_each_place(self):
        chance = random.Random(4)
        for case in range(20):
            records, ends = [], [0]
            text = ""
            for number in range(4):
                keys = ["k" * chance.randint(1, 20) for deed in range(chance.randint(1, 20))]
                puts = [("put", key, "v" * chance.randint(0, 40)) for key in keys]
                records.append((chance.randint(1, 999999999), [chance.choice([put, ("drop", put[1])]) for put in puts]))
                text += record(*records[-1])
                ends.append(len(text))
            for cut in range(0, len(text) + 1, 7 if case else 1):
                whole = len([end for end in ends[1:] if end <= cut])
                self.assertEqual((read_journal(text[:cut]), whole_end(text[:cut])), (records[:whole], ends[whole]))

    def torn(self, text):
        for ahead, records in [("", []), (FIRST, RECORDS[:1]), (JOURNAL, RECORDS)]:
            self.assertEqual(read_journal(ahead + text), records, text)
            self.assertEqual(whole_end(ahead + text), len(ahead), text)

    def test_fewer_than_nineteen_signs_of_whatever_kind(self):
        for text in ["x", "\n", " ", "0", "x" * 18, "\n" * 18, "000000000 00 00000", "p01ax\n", "000000005 99 x"]:
            self.torn(text)

    def test_a_right_head_with_nothing_behind_it(self):
        self.torn("000000005 01 00001\n")
        self.torn("000000005 20 99999\n")

    def test_a_right_head_with_less_behind_it_than_it_tells(self):
        self.torn("000000005 01 00006\np01a\n")
        self.torn("000000005 01 00007\np01ax\n")
        self.torn("000000005 20 99999\n" + "p01ax\n" * 20)

    def test_a_right_head_with_less_behind_it_and_this_no_deeds(self):
        self.torn("000000005 01 00006\nxxxxx")
        self.torn("000000005 01 00040\n\n\n\n")
        self.torn("000000005 02 99999\n" + JOURNAL)

    def test_the_greatest_length_just_there_is_not_torn(self):
        body = "x" * 99998 + "\n"
        self.torn("000000005 01 99999\n" + body[1:])
        with self.assertRaises(BadJournal) as caught:
            read_journal("000000005 01 99999\n" + body)
        self.assertEqual(caught.exception.place, 0)


class Wrong(unittest.TestCase):
    def wrong(self, text, behind=("", "x", FIRST, "x" * 20)):
        for ahead in ["", FIRST, JOURNAL]:
            for rest in behind:
                for asked in [read_journal, whole_end]:
                    with self.assertRaises(BadJournal, msg=text) as caught:
                        asked(ahead + text + rest)
                    self.assertEqual(caught.exception.place, len(ahead), text)

    def wrong_head(self, head):
        """Wrong with the right body, with nothing and with something else behind it."""
        self.assertEqual(len(head), 19)
        self.wrong(head + "p01ax\n")
        self.wrong(head)

    def wrong_body(self, many, body):
        self.wrong(with_body(many, body))

    def test_the_record_that_is_changed_below_is_right(self):
        self.assertEqual(read_journal("000000005 01 00006\np01ax\n"), [(5, [PUT])])
        self.assertEqual(read_journal(with_body(2, "p01ax\ng01a\n")), [(5, [PUT, DROP])])

    def test_a_stamp_of_noughts(self):
        self.wrong_head("000000000 01 00006\n")

    def test_figures_that_are_none_in_the_stamp(self):
        for stamp in ["x00000005", "00000000x", "+00000005", "-00000005", "0000_0005", " 00000005", "00000005.",
                      "        5", "5        ", "0000\n0005", "00000000:", "/00000005"]:
            self.wrong_head(stamp + " 01 00006\n")

    def test_figures_that_are_none_in_the_number_of_deeds(self):
        for many in ["x1", "1x", "+1", "-1", " 1", "1 ", "  ", "_1", "1\n", "1:", "1/", "0x"]:
            self.wrong_head("000000005 " + many + " 00006\n")

    def test_figures_that_are_none_in_the_length(self):
        for length in ["x0006", "0000x", "+0006", "-0006", "    6", "6    ", "0_006", "0 006", "000\n6", "0000:",
                       "/0006"]:
            self.wrong_head("000000005 01 " + length + "\n")

    def test_another_sign_in_the_place_of_the_first_blank(self):
        for sign in ["0", "x", "\n", "\t", "_", "-"]:
            self.wrong_head("000000005" + sign + "01 00006\n")

    def test_another_sign_in_the_place_of_the_second_blank(self):
        for sign in ["0", "x", "\n", "\t", "_", "-"]:
            self.wrong_head("000000005 01" + sign + "00006\n")

    def test_another_sign_in_the_place_of_the_line_end(self):
        for sign in ["0", "x", " ", "\t", "_", "p"]:
            self.wrong_head("000000005 01 00006" + sign)

    def test_the_blanks_at_other_places(self):
        for head in ["00000005 001 00006\n", "0000000005 1 00006\n", "000000005 001 0006\n", "000000005 1 000006\n",
                     "00000005 01 000006\n", "0000000005 01 0006\n", "000000005 1 0 0006\n", "0000 0005 01 00006\n",
                     "000000005 01  0006\n", "000000005  1 00006\n", "00000005  01 00006\n", " 00000005 01 00006\n"]:
            self.wrong_head(head)

    def test_no_deeds_by_the_head(self):
        self.wrong_head("000000005 00 00006\n")
        self.wrong("000000005 00 00000\n")

    def test_twenty_one_deeds(self):
        self.wrong_head("000000005 21 00006\n")
        self.wrong(with_body(21, "p01ax\n" * 21))

    def test_more_deeds(self):
        for many in ["22", "30", "99"]:
            self.wrong_head("000000005 " + many + " 00006\n")

    def test_a_wrong_head_with_less_behind_it_than_it_tells(self):
        for head in ["000000000 01 00006\n", "000000005 00 00006\n", "000000005 21 99999\n", "00000000x 01 99999\n",
                     "000000005 0x 99999\n", "000000005 01 9999x\n", "000000005x01 99999\n", "000000005 01x99999\n",
                     "000000005 01 99999x", "x" * 19, "\n" * 19, " " * 19]:
            for behind in ["", "p", "p01ax", "\n\n"]:
                self.wrong(head + behind, [""])

    def test_no_sign_in_the_body(self):
        self.wrong("000000005 01 00000\n")

    def test_fewer_lines_than_the_head_tells(self):
        self.wrong_body(2, "p01ax\n")
        self.wrong_body(20, "p01ax\n" * 19)

    def test_more_lines_than_the_head_tells(self):
        self.wrong_body(1, "p01ax\ng01a\n")
        self.wrong_body(19, "p01ax\n" * 20)
        self.wrong_body(1, "p01ax\n" * 21)

    def test_an_empty_line(self):
        for body in ["\n", "\n\n", "p01ax\n\n", "\np01ax\n"]:
            self.wrong_body(1, body)
            self.wrong_body(2, body)

    def test_a_body_one_sign_too_long_for_its_lines(self):
        for sign in ["x", "\n", " ", "p", "0"]:
            self.wrong("000000005 01 00007\np01ax\n" + sign)
        self.wrong("000000005 01 00007\np01ax\n" + FIRST)

    def test_a_body_one_sign_too_short_for_its_lines(self):
        self.wrong("000000005 01 00005\np01ax\n")
        self.wrong("000000005 02 00010\np01ax\ng01a\n")

    def test_a_last_line_without_its_line_end(self):
        self.wrong_body(1, "p01ax")
        self.wrong_body(1, "g01a")
        self.wrong_body(2, "p01ax\ng01a")
        self.wrong_body(1, "p01ax\ng01a")

    def test_a_line_that_begins_with_another_sign(self):
        for sign in "PGd+-01 x\tq":
            self.wrong_body(1, sign + "01a\n")
            self.wrong_body(1, sign + "01ax\n")
            self.wrong_body(2, "p01ax\n" + sign + "01a\n")
            self.wrong_body(1, sign + "p01a\n")
        self.wrong_body(1, "01a\n")

    def test_a_keys_length_of_noughts(self):
        for row in ["p00", "p00x", "g00", "g00a"]:
            self.wrong_body(1, row + "\n")

    def test_a_keys_length_of_twenty_one(self):
        for row in ["p21" + "k" * 21, "p21" + "k" * 22, "g21" + "k" * 21, "p99" + "k" * 99, "g99" + "k" * 99]:
            self.wrong_body(1, row + "\n")

    def test_a_keys_length_of_other_signs(self):
        for figures in ["x1", "1x", " 1", "1 ", "+1", "-1", "_1", "a", "1_"]:
            for row in ["p" + figures + "ax", "g" + figures + "a"]:
                self.wrong_body(1, row + "\n")

    def test_a_keys_length_that_is_not_there(self):
        for row in ["p", "g", "p0", "p1", "g1"]:
            self.wrong_body(1, row + "\n")

    def test_a_keys_length_beyond_the_line(self):
        for row in ["p02a", "g02a", "p01", "g01", "p20" + "k" * 19, "g20" + "k" * 19]:
            self.wrong_body(1, row + "\n")
        self.wrong_body(2, "g04a\ng01a\n")
        self.wrong_body(1, "g06a\ng01\n")

    def test_a_key_that_is_none(self):
        for row in ["p01\tx", "g01\t", "p03a\tbx", "g03a\tb"]:
            self.wrong_body(1, row + "\n")
            self.wrong_body(2, "p01ax\n" + row + "\n")

    def test_a_value_that_is_none(self):
        for row in ["p01a\t", "p01ax\ty", "p01a" + "v" * 41, "p20" + "k" * 20 + "v" * 41, "p01a" + " " * 41]:
            self.wrong_body(1, row + "\n")
            self.wrong_body(2, row + "\ng01a\n")

    def test_a_value_behind_a_drop(self):
        for row in ["g01ax", "g01a ", "g02abx", "g20" + "k" * 21]:
            self.wrong_body(1, row + "\n")
            self.wrong_body(2, "p01ax\n" + row + "\n")

    def test_a_wrong_line_at_each_place_among_several(self):
        for place in range(20):
            rows = ["p01ax\n"] * 20
            rows[place] = "q01ax\n"
            self.wrong_body(20, "".join(rows))

    def test_of_two_wrong_records_the_first_one(self):
        self.wrong(with_body(1, "q01ax\n"), [with_body(1, "q01ax\n"), "x" * 19])

    def test_a_wrong_record_behind_one_that_ends_within_the_text(self):
        text = FIRST + SECOND + "000000000" + THIRD[9:] + FIRST
        with self.assertRaises(BadJournal) as caught:
            read_journal(text)
        self.assertEqual(caught.exception.place, 67)


class EachChange(unittest.TestCase):
    """One sign changed, left out or put in, at each place: read as by patterns."""

    SIGNS = "0123456789 \n\tpgxab:/+_"

    def told(self, text):
        try:
            return (read_journal(text), whole_end(text))
        except BadJournal as e:
            return e.place

    def test_changed(self):
        for place in range(len(JOURNAL)):
            for sign in self.SIGNS:
                text = JOURNAL[:place] + sign + JOURNAL[place + 1:]
                self.assertEqual(self.told(text), read_otherwise(text), (place, sign))

    def test_put_in(self):
        for place in range(len(JOURNAL) + 1):
            for sign in self.SIGNS:
                text = JOURNAL[:place] + sign + JOURNAL[place:]
                self.assertEqual(self.told(text), read_otherwise(text), (place, sign))

    def test_left_out(self):
        for place in range(len(JOURNAL)):
            for behind in range(place, len(JOURNAL) + 1):
                text = JOURNAL[:place] + JOURNAL[behind:]
                self.assertEqual(self.told(text), read_otherwise(text), (place, behind))

    def test_several_changes(self):
        chance = random.Random(44)
        for case in range(4000):
            signs = list(chance.choice([FIRST, SECOND, JOURNAL, THIRD + SECOND]))
            for change in range(chance.randint(1, 3)):
                signs[chance.randrange(len(signs))] = chance.choice(self.SIGNS)
            text = "".join(signs)
            self.assertEqual(self.told(text), read_otherwise(text), text)


if __name__ == "__main__":
    unittest.main()
