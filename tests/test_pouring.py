"""[3.1] to [3.4]: rows merged, what is seen of them, and rows poured."""

import copy
import itertools
import random
import unittest

from tierstore.pouring import merged, poured, seen

A9, A7, A5, A2 = ("a", 9, "nine"), ("a", 7, None), ("a", 5, ""), ("a", 2, "two")
B8, B3 = ("b", 8, None), ("b", 3, "three")
AB4, C6 = ("ab", 4, None), ("c", 6, "six")


def first_not_above(entries, key, stamp):
    for entry in entries:
        if entry[0] == key and entry[1] <= stamp:
            return entry
    return None


def some_rows(chance):
    """Rows in order, of a few keys and stamps, no two entries alike in both."""
    pairs = [(key, stamp) for key in ("a", "ab", "b") for stamp in range(1, 9)]
    picked = chance.sample(pairs, chance.randint(0, 14))
    rows = [[] for _ in range(chance.randint(1, 4))]
    for key, stamp in sorted(picked, key=lambda pair: (pair[0], -pair[1])):
        chance.choice(rows).append((key, stamp, chance.choice([None, None, "", "x"])))
    return rows


def some_stamps(chance):
    return sorted(chance.sample(range(11), chance.randint(0, 5)))


class Merged(unittest.TestCase):
    def test_no_row(self):
        self.assertEqual(merged([]), [])

    def test_empty_rows(self):
        self.assertEqual(merged([[]]), [])
        self.assertEqual(merged([[], [], []]), [])

    def test_one_row(self):
        self.assertEqual(merged([[A9, A7, AB4, B8]]), [A9, A7, AB4, B8])
        self.assertEqual(merged([[], [A9], []]), [A9])

    def test_several_rows_one_behind_the_other(self):
        self.assertEqual(merged([[A9, A7], [AB4], [B8, C6]]), [A9, A7, AB4, B8, C6])
        self.assertEqual(merged([[B8, C6], [AB4], [A9, A7]]), [A9, A7, AB4, B8, C6])

    def test_several_rows_that_go_into_one_another(self):
        rows = [[A7, AB4, C6], [A9, A2, B3], [], [A5, B8]]
        for order in itertools.permutations(rows):
            self.assertEqual(merged(list(order)), [A9, A7, A5, A2, AB4, B8, B3, C6])

    def test_a_key_that_begins_another_stands_ahead_whatever_the_stamps(self):
        self.assertEqual(merged([[("ab", 9, "x")], [("a", 1, "x")], [("a ", 5, "x")]]),
                         [("a", 1, "x"), ("a ", 5, "x"), ("ab", 9, "x")])

    def test_stamps_stand_as_numbers(self):
        self.assertEqual(merged([[("a", 9, "x")], [("a", 10, "x")], [("a", 100, None)]]),
                         [("a", 100, None), ("a", 10, "x"), ("a", 9, "x")])

    def test_what_is_handed_in_stays(self):
        rows = [[A7, AB4, C6], [A9, A2, B3], []]
        before = copy.deepcopy(rows)
        merged(rows)
        self.assertEqual(rows, before)

    def test_the_list_told_is_new(self):
        rows = [[A9, A7]]
        told = merged(rows)
        told.append(B8)
        self.assertEqual(rows, [[A9, A7]])
        rows[0].clear()
        self.assertEqual(told, [A9, A7, B8])
        self.assertIsNot(merged([]), merged([]))


class Seen(unittest.TestCase):
    ENTRIES = [A9, A7, A5, A2]

    def say(self, stamps, told):
        self.assertEqual(seen(self.ENTRIES, stamps), told, stamps)

    def test_no_entry(self):
        for stamps in [[], [0], [3], [0, 5, 999999999]]:
            self.assertEqual(seen([], stamps), [])

    def test_no_stamp(self):
        self.say([], [A9])
        self.assertEqual(seen([A7, A5], []), [A7])

    def test_one_stamp_below_at_between_and_above(self):
        answers = {1: [A9], 2: [A9, A2], 3: [A9, A2], 4: [A9, A2], 5: [A9, A5], 6: [A9, A5], 7: [A9, A7], 8: [A9, A7]}
        answers |= {0: [A9], 9: [A9], 10: [A9], 999999999: [A9]}
        for stamp, told in answers.items():
            self.say([stamp], told)

    def test_several_stamps(self):
        self.say([2, 7], [A9, A7, A2])
        self.say([5, 9], [A9, A5])
        self.say([2, 5, 7], [A9, A7, A5, A2])
        self.say([2, 5, 7, 9, 10], [A9, A7, A5, A2])
        self.say([0, 1, 6], [A9, A5])

    def test_several_stamps_that_see_the_same_entry(self):
        self.say([2, 3, 4], [A9, A2])
        self.say([5, 6], [A9, A5])
        self.say([7, 8, 9, 10, 11], [A9, A7])
        self.say([9, 10, 999999999], [A9])

    def test_the_stamp_nought_sees_none(self):
        self.say([0], [A9])
        self.assertEqual(seen([("a", 1, "x")], [0]), [("a", 1, "x")])
        self.assertEqual(seen([("a", 2, "y"), ("a", 1, "x")], [0]), [("a", 2, "y")])

    def test_the_greatest_stamp(self):
        entries = [("a", 999999999, None), ("a", 999999998, "x")]
        self.assertEqual(seen(entries, [999999999]), entries[:1])
        self.assertEqual(seen(entries, [999999998]), entries)

    def test_a_gone_entry_is_seen_like_any_other(self):
        self.assertEqual(seen([A7, A2], [8]), [A7])
        self.assertEqual(seen([("a", 8, None), A7, ("a", 6, None)], [6, 7]), [("a", 8, None), A7, ("a", 6, None)])

    def test_all_stamps_against_the_words_of_the_promise(self):
        for many in range(4):
            for stamps in itertools.combinations(range(12), many):
                kept = [A9] + [first_not_above(self.ENTRIES, "a", stamp) for stamp in stamps]
                self.say(list(stamps), [entry for entry in self.ENTRIES if entry in kept])

    def test_what_is_handed_in_stays(self):
        entries, stamps = list(self.ENTRIES), [2, 5]
        seen(entries, stamps)
        self.assertEqual((entries, stamps), (self.ENTRIES, [2, 5]))

    def test_the_list_told_is_new(self):
        entries = [A9, A7]
        told = seen(entries, [7])
        self.assertEqual(told, entries)
        told.clear()
        self.assertEqual(entries, [A9, A7])
        none = []
        self.assertIsNot(seen(none, []), none)


class Poured(unittest.TestCase):
    ROWS = [[A7, AB4, C6], [A9, A2, B3], [], [A5, B8]]

    def test_nothing(self):
        for lowest in (True, False):
            for rows in ([], [[]], [[], []]):
                self.assertEqual(poured(rows, [], lowest), [])
                self.assertEqual(poured(rows, [0, 4], lowest), [])

    def test_several_keys_without_stamps(self):
        self.assertEqual(poured(self.ROWS, [], False), [A9, AB4, B8, C6])
        self.assertEqual(poured(self.ROWS, [], True), [A9, C6])

    def test_several_keys_with_stamps(self):
        self.assertEqual(poured(self.ROWS, [3], False), [A9, A2, AB4, B8, B3, C6])
        self.assertEqual(poured(self.ROWS, [3], True), [A9, A2, B8, B3, C6])
        self.assertEqual(poured(self.ROWS, [4, 7], False), [A9, A7, A2, AB4, B8, B3, C6])
        self.assertEqual(poured(self.ROWS, [4, 7], True), [A9, A7, A2, B8, B3, C6])
        self.assertEqual(poured(self.ROWS, [0, 1], True), [A9, C6])

    def test_each_key_is_seen_by_itself(self):
        rows = [[("a", 5, "x"), ("b", 4, "y"), ("b", 3, "z")], [("a", 1, "v"), ("c", 9, "w"), ("c", 2, "u")]]
        self.assertEqual(poured(rows, [2], False), [rows[0][0], rows[1][0], rows[0][1], rows[1][1], rows[1][2]])

    def test_a_key_whose_entries_are_all_gone(self):
        gone = [("a", 9, None), ("a", 5, None), ("a", 2, None)]
        self.assertEqual(poured([gone], [2, 5], False), gone)
        self.assertEqual(poured([gone], [], False), gone[:1])
        for stamps in [[], [0], [2], [5], [2, 5], [2, 5, 9]]:
            self.assertEqual(poured([gone], stamps, True), [])
            self.assertEqual(poured([gone, [B3]], stamps, True), [B3])

    def test_a_gone_entry_behind_which_an_older_one_is_seen(self):
        rows = [[A7], [A2]]
        self.assertEqual(poured(rows, [3], True), [A7, A2])
        self.assertEqual(poured(rows, [3], False), [A7, A2])

    def test_a_gone_entry_behind_which_an_older_one_lies_that_nobody_sees(self):
        rows = [[A7], [A2]]
        for stamps in [[], [0], [1], [7], [8, 9]]:
            self.assertEqual(poured(rows, stamps, True), [])
            self.assertEqual(poured(rows, stamps, False), [A7])

    def test_a_gone_entry_behind_which_none_is(self):
        rows = [[A9], [A7]]
        self.assertEqual(poured(rows, [8], True), [A9])
        self.assertEqual(poured(rows, [8], False), [A9, A7])

    def test_several_gone_ones_at_the_end_are_left_out_one_after_the_other(self):
        rows = [[A9, A7, ("a", 6, None), ("a", 4, None)]]
        self.assertEqual(poured(rows, [4, 6, 7], True), [A9])
        self.assertEqual(poured(rows, [4, 6, 7], False), rows[0])

    def test_gone_ones_amid_values_stay(self):
        rows = [[("a", 9, None), A7, A5, ("a", 4, None), ("a", 3, ""), A2, ("a", 1, None)]]
        self.assertEqual(poured(rows, [1, 2, 3, 4, 5, 7], False), rows[0])
        self.assertEqual(poured(rows, [1, 2, 3, 4, 5, 7], True), rows[0][:6])

    def test_an_empty_value_is_not_gone(self):
        self.assertEqual(poured([[A5]], [], True), [A5])

    def test_another_keys_entry_behind_a_gone_one_does_not_count(self):
        self.assertEqual(poured([[("a", 1, None), ("b", 1, "x")]], [], True), [("b", 1, "x")])
        self.assertEqual(poured([[("a", 1, "x"), ("b", 1, None)]], [], True), [("a", 1, "x")])

    def test_what_is_handed_in_stays(self):
        rows, stamps = copy.deepcopy(self.ROWS), [3, 7]
        for lowest in (True, False):
            poured(rows, stamps, lowest)
            self.assertEqual((rows, stamps), (self.ROWS, [3, 7]))

    def test_the_list_told_is_new(self):
        for lowest in (True, False):
            rows = [[A9, AB4, C6]]
            poured(rows, [], lowest).clear()
            self.assertEqual(rows, [[A9, AB4, C6]])
            told = poured(rows, [], lowest)
            rows[0].clear()
            self.assertIn(A9, told)


class SameAnswers(unittest.TestCase):
    """By rows and stamps of a fixed chance."""

    def each(self, check):
        chance = random.Random(3)
        for _ in range(1500):
            rows, stamps = some_rows(chance), some_stamps(chance)
            for lowest in (True, False):
                with self.subTest(rows=rows, stamps=stamps, lowest=lowest):
                    check(rows, stamps, lowest)

    def test_the_same_entry_is_found_now_and_at_each_stamp(self):
        def check(rows, stamps, lowest):
            told, everything = poured(rows, stamps, lowest), merged(rows)
            for key in ("a", "ab", "b", "c"):
                for stamp in stamps + [999999999]:
                    found = first_not_above(told, key, stamp)
                    right = first_not_above(everything, key, stamp)
                    if found is None and lowest and right is not None:
                        self.assertIsNone(right[2])
                    else:
                        self.assertEqual(found, right)
        self.each(check)

    def test_nothing_is_left_that_nobody_sees(self):
        def check(rows, stamps, lowest):
            told = poured(rows, stamps, lowest)
            for entry in told:
                asked = [first_not_above(merged(rows), entry[0], stamp) for stamp in stamps + [999999999]]
                self.assertIn(entry, asked)
            last = {entry[0]: entry for entry in told}
            self.assertTrue(not lowest or all(entry[2] is not None for entry in last.values()))
        self.each(check)

    def test_not_lowest_everything_that_is_seen_is_left(self):
        def check(rows, stamps, lowest):
            told = poured(rows, stamps, False)
            asked = [first_not_above(merged(rows), key, stamp) for key in ("a", "ab", "b") for stamp in stamps + [99]]
            self.assertEqual(told, [entry for entry in merged(rows) if entry in asked])
        self.each(check)

    def test_what_is_poured_stays_when_it_is_poured_again(self):
        def check(rows, stamps, lowest):
            told = poured(rows, stamps, lowest)
            self.assertEqual(poured([told], stamps, lowest), told)
        self.each(check)

    def test_what_is_poured_stands_in_order_each_once(self):
        def check(rows, stamps, lowest):
            told = poured(rows, stamps, lowest)
            self.assertEqual(told, merged([told]))
            self.assertEqual(len(told), len(set(told)))
        self.each(check)

    def test_nothing_that_is_handed_in_is_changed(self):
        def check(rows, stamps, lowest):
            before = copy.deepcopy((rows, stamps))
            poured(rows, stamps, lowest).clear()
            self.assertEqual((rows, stamps), before)
        self.each(check)


if __name__ == "__main__":
    unittest.main()
