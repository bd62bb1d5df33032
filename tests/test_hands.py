"""[4.1], [4.2]: the table in hand."""

import itertools
import unittest

from tierstore.hands import Hand, put_deeds

ENTRIES = [
    (" ", 3, "blank"), ("a", 9, "nine"), ("a", 5, None), ("a", 2, ""), ("a ", 4, "four"), ("ab", 7, None),
    ("b", 1, "end"), ("~", 999999999, "last"),
]


def hand_of(entries):
    hand = Hand()
    for entry in entries:
        hand.put(*entry)
    return hand


class Empty(unittest.TestCase):
    def check_empty(self, hand):
        self.assertEqual((hand.many(), hand.greatest(), hand.rows(), hand.between()), (0, 0, [], []))
        self.assertEqual((hand.between("a"), hand.between("a", None), hand.between("", "~")), ([], [], []))
        for stamp in [0, 1, 999999999]:
            self.assertIsNone(hand.find("a", stamp))

    def test_a_new_one(self):
        self.check_empty(Hand())

    def test_a_cleared_one(self):
        hand = hand_of(ENTRIES)
        self.assertIsNone(hand.clear())
        self.check_empty(hand)

    def test_cleared_with_nothing_in_it(self):
        hand = Hand()
        hand.clear()
        hand.clear()
        self.check_empty(hand)

    def test_a_cleared_one_is_filled_again(self):
        hand = hand_of(ENTRIES)
        hand.clear()
        hand.put("a", 1, "x")
        self.assertEqual((hand.rows(), hand.many(), hand.greatest()), ([("a", 1, "x")], 1, 1))
        self.assertEqual(hand.find("a", 999999999), ("a", 1, "x"))


class Put(unittest.TestCase):
    def test_it_answers_none(self):
        hand = Hand()
        self.assertIsNone(hand.put("a", 1, "x"))
        self.assertIsNone(hand.put("a", 1, None))

    def test_a_second_entry_of_the_same_key_and_stamp_takes_the_place_of_the_first(self):
        for first, second in itertools.permutations(["x", "y", "", None], 2):
            hand = hand_of([("a", 3, "old"), ("a", 5, first), ("b", 5, "other")])
            hand.put("a", 5, second)
            self.assertEqual(hand.rows(), [("a", 5, second), ("a", 3, "old"), ("b", 5, "other")])
            self.assertEqual(hand.find("a", 5), ("a", 5, second))
            self.assertEqual((hand.many(), hand.greatest()), (3, 5))

    def test_the_same_entry_twice_is_there_once(self):
        hand = hand_of([("a", 1, "x"), ("a", 1, "x")])
        self.assertEqual((hand.rows(), hand.many()), ([("a", 1, "x")], 1))

    def test_another_stamp_or_another_key_takes_no_ones_place(self):
        hand = hand_of([("a", 1, "x"), ("a", 2, "y"), ("b", 1, "z"), ("b", 2, None)])
        self.assertEqual(hand.rows(), [("a", 2, "y"), ("a", 1, "x"), ("b", 2, None), ("b", 1, "z")])

    def test_many_and_greatest_behind_each_telling(self):
        hand = Hand()
        told = []
        for entry in [("b", 3, "x"), ("a", 7, "y"), ("a", 2, None), ("b", 3, None), ("c", 9, ""), ("a", 8, "z")]:
            hand.put(*entry)
            told.append((hand.many(), hand.greatest()))
        self.assertEqual(told, [(1, 3), (2, 7), (3, 7), (3, 7), (4, 9), (5, 9)])

    def test_the_greatest_stamp_that_may_be(self):
        self.assertEqual(hand_of(ENTRIES).greatest(), 999999999)


class Rows(unittest.TestCase):
    def test_in_order_in_whatever_order_they_are_told(self):
        for entries in itertools.permutations(ENTRIES[:6]):
            self.assertEqual(hand_of(entries).rows(), ENTRIES[:6])
        self.assertEqual(hand_of(reversed(ENTRIES)).rows(), ENTRIES)

    def test_stamps_stand_as_numbers(self):
        hand = hand_of([("a", 9, ""), ("a", 100, ""), ("a", 10, "")])
        self.assertEqual(hand.rows(), [("a", 100, ""), ("a", 10, ""), ("a", 9, "")])

    def test_what_is_told_is_a_list_of_tuples(self):
        told = hand_of(ENTRIES).rows()
        self.assertEqual([type(told)] + [type(entry) for entry in told], [list] + [tuple] * 8)

    def test_two_thousand_entries(self):
        entries = [(f"key{number:04}", number + 1, "x") for number in range(2000)]
        hand = hand_of(reversed(entries))
        self.assertEqual((hand.rows(), hand.many(), hand.greatest()), (entries, 2000, 2000))


class Find(unittest.TestCase):
    def say(self, key, answers):
        for entries in (ENTRIES, ENTRIES[::-1], ENTRIES[2:] + ENTRIES[:2], ENTRIES[3:] + ENTRIES[:3]):
            hand = hand_of(entries)
            for stamp, answer in answers.items():
                self.assertEqual(hand.find(key, stamp), answer, (key, stamp))

    def test_below_at_and_above_each_stamp(self):
        nine, gone, two = ENTRIES[1:4]
        self.say("a", {0: None, 1: None, 2: two, 3: two, 4: two, 5: gone, 6: gone, 8: gone, 9: nine, 10: nine})
        self.say("a", {999999999: nine, 1000000000: nine, 10 ** 30: nine})

    def test_keys_of_one_entry(self):
        self.say("ab", {0: None, 6: None, 7: ENTRIES[5], 8: ENTRIES[5]})
        self.say("b", {0: None, 1: ENTRIES[6], 2: ENTRIES[6]})
        self.say("~", {0: None, 999999998: None, 999999999: ENTRIES[7]})

    def test_a_key_that_is_not_there(self):
        for key in ["A", "aa", "a  ", "abc", "  ", "c", "i"]:
            self.say(key, {0: None, 1: None, 5: None, 999999999: None})

    def test_finding_changes_nothing(self):
        hand = hand_of(ENTRIES)
        for key in ["a", "c", "ab"]:
            hand.find(key, 5)
        self.assertEqual((hand.rows(), hand.many()), (ENTRIES, 8))


class Between(unittest.TestCase):
    HAND = hand_of(ENTRIES[::-1])

    def test_both_bounds_left_out(self):
        self.assertEqual(self.HAND.between(), ENTRIES)

    def test_the_high_bound_left_out(self):
        self.assertEqual(self.HAND.between("a"), ENTRIES[1:])
        self.assertEqual(self.HAND.between("a!"), ENTRIES[5:])
        self.assertEqual(self.HAND.between(""), ENTRIES)
        self.assertEqual(self.HAND.between("~~"), [])

    def test_none_as_high_bound(self):
        self.assertEqual(self.HAND.between("a", None), ENTRIES[1:])
        self.assertEqual(self.HAND.between("", None), ENTRIES)

    def test_the_low_bound_left_out(self):
        self.assertEqual(self.HAND.between("", "a"), ENTRIES[:1])
        self.assertEqual(self.HAND.between("", "~"), ENTRIES[:7])
        self.assertEqual(self.HAND.between(high="ab"), ENTRIES[:5])

    def test_both_bounds(self):
        self.assertEqual(self.HAND.between("a", "b"), ENTRIES[1:6])
        self.assertEqual(self.HAND.between("a", "a "), ENTRIES[1:4])
        self.assertEqual(self.HAND.between("a ", "ab"), ENTRIES[4:5])
        self.assertEqual(self.HAND.between("a!", "aa"), [])
        self.assertEqual(self.HAND.between(" ", "~~"), ENTRIES)

    def test_a_high_bound_that_does_not_come_behind_the_low_one(self):
        for low, high in [("a", "a"), ("b", "a"), ("~", " "), ("a", ""), ("", ""), ("ab", "a")]:
            self.assertEqual(self.HAND.between(low, high), [])

    def test_all_bounds_against_a_plain_walk(self):
        bounds = ["", " ", "  ", "A", "a", "a ", "a!", "aa", "ab", "abc", "b", "c", "~", "~~", "x" * 40]
        for low, high in itertools.product(bounds, bounds + [None]):
            told = [entry for entry in ENTRIES if entry[0] >= low and not (high is not None and entry[0] >= high)]
            self.assertEqual(self.HAND.between(low, high), told)


class Own(unittest.TestCase):
    def test_the_lists_told_are_the_askers_own(self):
        hand = hand_of(ENTRIES)
        hand.rows().clear()
        hand.between().clear()
        hand.between("a").append("more")
        self.assertEqual((hand.rows(), hand.between(), hand.many()), (ENTRIES, ENTRIES, 8))

    def test_what_is_done_later_changes_no_list_that_was_told(self):
        hand = hand_of(ENTRIES)
        rows, stretch, found = hand.rows(), hand.between("a", "b"), hand.find("a", 9)
        hand.put("a", 9, "other")
        hand.put("aa", 10, None)
        hand.clear()
        self.assertEqual((rows, stretch, found), (ENTRIES, ENTRIES[1:6], ("a", 9, "nine")))

    def test_two_tables_beside_each_other_have_each_their_own(self):
        one, other = Hand(), Hand()
        one.put("a", 1, "x")
        other.put("a", 2, "y")
        other.put("b", 3, None)
        self.assertEqual((one.rows(), other.rows()), ([("a", 1, "x")], [("a", 2, "y"), ("b", 3, None)]))
        other.clear()
        self.assertEqual((one.many(), other.many()), (1, 0))
        self.assertEqual((one.find("a", 5), other.find("a", 5)), (("a", 1, "x"), None))


class PutDeeds(unittest.TestCase):
    def test_one_by_one_under_one_stamp(self):
        hand = hand_of([("a", 3, "old")])
        put_deeds(hand, 5, [("put", "a", "x"), ("drop", "b"), ("put", "put", ""), ("drop", "drop")])
        self.assertEqual(hand.rows(), [
            ("a", 5, "x"), ("a", 3, "old"), ("b", 5, None), ("drop", 5, None), ("put", 5, "")])

    def test_of_two_with_one_key_the_later_one_counts(self):
        for deeds, value in [([("put", "a", "x"), ("drop", "a")], None), ([("drop", "a"), ("put", "a", "x")], "x")]:
            hand = Hand()
            put_deeds(hand, 5, deeds)
            self.assertEqual(hand.rows(), [("a", 5, value)])


if __name__ == "__main__":
    unittest.main()
