"""[2.1] to [2.4]: runs, the entry of a key at a stamp, and stretches."""

import itertools
import unittest

from tierstore.runs import between, find, is_run, run_of
from tierstore.sieves import may_have, sieve_of

# Keys that begin one another, several stamps of one, gone entries, empty values.
ENTRIES = (
    (" ", 3, "blank"),
    ("a", 9, "nine"),
    ("a", 5, None),
    ("a", 2, ""),
    ("a ", 4, "four"),
    ("ab", 7, None),
    ("b", 1, "end"),
    ("~", 999999999, "last"),
)
KEYS = [" ", "a", "a ", "ab", "b", "~"]


def two_hundred():
    return tuple((f"key{number:03}", 1000 - number, None if number % 7 == 0 else f"{number}") for number in range(200))


def deep(kind, inner, times):
    for _ in range(times):
        inner = kind([inner])
    return inner


class RunOf(unittest.TestCase):
    def test_one_entry(self):
        # The places of a are 2, 4 and 0.
        self.assertEqual(run_of([("a", 1, "x")]), ((8, 21), (("a", 1, "x"),)))

    def test_several_entries_of_one_key_count_as_one_key_of_the_sieve(self):
        entries = [("a", 1, "x"), ("a", 3, None), ("a", 2, "")]
        self.assertEqual(run_of(entries), ((8, 21), (("a", 3, None), ("a", 2, ""), ("a", 1, "x"))))

    def test_two_keys_of_which_one_begins_the_other(self):
        # By 16, those of a are 10, 4 and 0, those of ab 8, 6 and 2.
        run = run_of([("ab", 2, "y"), ("a", 1, "x")])
        self.assertEqual(run, ((16, 0b10101010101), (("a", 1, "x"), ("ab", 2, "y"))))

    def test_all_in_order_with_the_sieve_of_their_keys(self):
        self.assertEqual(run_of(list(reversed(ENTRIES))), (sieve_of(KEYS), ENTRIES))

    def test_the_entries_in_any_order(self):
        run = run_of(list(ENTRIES[:6]))
        self.assertEqual(run[1], ENTRIES[:6])
        for entries in itertools.permutations(ENTRIES[:6]):
            self.assertEqual(run_of(list(entries)), run)

    def test_stamps_stand_as_numbers_and_keys_as_texts(self):
        entries = [("10", 9, "x"), ("10", 10, "x"), ("9", 1, "x"), ("B", 1, "x"), ("a", 1, "x")]
        told = [entry[:2] for entry in run_of(entries)[1]]
        self.assertEqual(told, [("10", 10), ("10", 9), ("9", 1), ("B", 1), ("a", 1)])

    def test_two_hundred_entries(self):
        entries = two_hundred()
        run = run_of(list(reversed(entries)))
        self.assertEqual(run, (sieve_of([entry[0] for entry in entries]), entries))
        self.assertEqual(run[0][0], 1600)

    def test_the_kinds_of_what_is_told(self):
        run = run_of([("b", 1, "x"), ("a", 1, None)])
        self.assertEqual([type(part) for part in (run, *run, *run[1])], [tuple] * 5)
        self.assertEqual([type(part) for part in run[0]], [int, int])

    def test_the_list_stays_as_it_is(self):
        entries = list(reversed(ENTRIES))
        run_of(entries)
        self.assertEqual(entries, list(reversed(ENTRIES)))

    def test_what_is_told_stays_when_the_list_changes(self):
        entries = [("a", 1, "x")]
        run = run_of(entries)
        entries.append(("b", 2, "y"))
        self.assertEqual(run, ((8, 21), (("a", 1, "x"),)))


class IsRun(unittest.TestCase):
    def say(self, answer, *things):
        for thing in things:
            with self.subTest(repr(thing)[:200]):
                self.assertIs(is_run(thing), answer)

    def test_runs(self):
        self.say(True, ((8, 21), (("a", 1, "x"),)), ((8, 21), (("a", 1, None),)), ((8, 21), (("a", 1, ""),)))
        self.say(True, (sieve_of(KEYS), ENTRIES), run_of(list(ENTRIES)), run_of(list(two_hundred())))
        for many in range(1, len(ENTRIES)):
            self.say(True, run_of(list(ENTRIES[:many])), run_of(list(ENTRIES[many:])))

    def test_two_entries_exchanged(self):
        for one, other in itertools.combinations(range(len(ENTRIES)), 2):
            entries = list(ENTRIES)
            entries[one], entries[other] = entries[other], entries[one]
            self.say(False, (sieve_of(KEYS), tuple(entries)))

    def test_an_entry_twice(self):
        for place, entry in enumerate(ENTRIES):
            self.say(False, (sieve_of(KEYS), ENTRIES[:place] + (entry,) + ENTRIES[place:]))
            self.say(False, (sieve_of(KEYS), ENTRIES + (entry,)))

    def test_two_alike_in_key_and_stamp_with_other_values(self):
        self.say(False, ((8, 21), (("a", 1, "x"), ("a", 1, "y"))), ((8, 21), (("a", 1, "y"), ("a", 1, "x"))))
        self.say(False, ((8, 21), (("a", 1, None), ("a", 1, ""))))

    def test_one_that_is_no_entry(self):
        wrong = [
            ("a", 0, "x"), ("a", 1000000000, "x"), ("a", True, "x"), ("a", "1", "x"), ("a", None, "x"), ("a", 1, 7),
            ("a", 1, True), ("a", 1, "x" * 41), ("a", 1, "\t"), ("a", 1), ("a", 1, "x", "x"), (), "a", 1, None, True,
        ]
        for entry in wrong:
            self.say(False, ((8, 21), (entry,)), ((8, 21), (("a", 3, "x"), entry)), ((8, 21), (entry, ("a", 1, "x"))))

    def test_a_key_that_is_none(self):
        for key in ["", "a" * 21, "a\n", "\t"]:
            self.say(False, (sieve_of([key]), ((key, 1, "x"),)))
        self.say(False, ((8, 21), ((1, 1, "x"),)), ((8, 21), ((None, 1, "x"),)), ((8, 21), ((("a",), 1, "x"),)))

    def test_an_entry_as_a_list(self):
        self.say(False, ((8, 21), (["a", 1, "x"],)), ((8, 21), (("a", 2, "x"), ["a", 1, "x"])))

    def test_no_entries(self):
        self.say(False, ((8, 0), ()), ((8, 21), ()), ((8, 0), []), ((8, 0), None), ((8, 0), ""))

    def test_the_entries_as_a_list(self):
        self.say(False, ((8, 21), [("a", 1, "x")]), (sieve_of(KEYS), list(ENTRIES)))

    def test_the_sieve_with_one_bit_more_or_less(self):
        size, bits = sieve_of(KEYS)
        for place in range(size + 8):
            self.say(False, ((size, bits ^ (1 << place)), ENTRIES))

    def test_a_sieve_of_another_size(self):
        self.say(False, ((16, 21), (("a", 1, "x"),)), ((16, 2 ** 10 + 2 ** 4 + 1), (("a", 1, "x"),)))
        # As many entries as that, but one key alone.
        self.say(False, ((16, 2 ** 10 + 2 ** 4 + 1), (("a", 2, "x"), ("a", 1, "x"))))
        self.say(False, ((0, 21), (("a", 1, "x"),)), ((-8, 21), (("a", 1, "x"),)), ((9, 21), (("a", 1, "x"),)))

    def test_a_sieve_of_other_keys(self):
        for key in KEYS:
            self.say(False, (sieve_of([other for other in KEYS if other != key]), ENTRIES))
            self.say(False, (sieve_of(KEYS + ["c"]), ENTRIES))
        self.say(False, (sieve_of(["b"]), (("a", 1, "x"),)), (sieve_of([]), (("a", 1, "x"),)))

    def test_a_sieve_that_is_like_that_of_another_key(self):
        # The places of i are those of a.
        self.say(True, ((8, 21), (("i", 1, "x"),)))

    def test_truths_in_the_place_of_numbers(self):
        # The places of de are all 0: 7 * 31 + 100 = 317, 359 and 387; 317 * 31 + 101 = 9928, 13384 and 15968.
        entries = (("de", 1, "x"),)
        self.say(True, ((8, 1), entries))
        self.say(False, ((8, True), entries), ((True, 1), entries), ((True, True), entries), ((8, False), entries))

    def test_other_kinds_in_the_sieve(self):
        entries = (("a", 1, "x"),)
        self.say(False, ((8, "21"), entries), (("8", 21), entries), ((None, None), entries), (((8,), (21,)), entries))
        self.say(False, ((8,), entries), ((), entries), ((8, 21, 0), entries), ("8:fb", entries), (None, entries))

    def test_the_sieve_as_a_list(self):
        self.say(False, ([8, 21], (("a", 1, "x"),)), (list(sieve_of(KEYS)), ENTRIES))

    def test_no_pair(self):
        run = ((8, 21), (("a", 1, "x"),))
        self.say(False, list(run), run[:1], run[1:], run + (None,), run + run, (run,), (run, run), (run[1], run[0]))

    def test_texts_numbers_truths_and_none(self):
        self.say(False, "", "a", "ab", "run 1\n8:fb\n1 + 01ax\nend 124\n", 0, 1, 2, -1, 10 ** 30, True, False, None)

    def test_tuples_and_lists_thirty_deep(self):
        run = ((8, 21), (("a", 1, "x"),))
        for kind in (tuple, list):
            for times in range(31):
                inner = deep(kind, "a", times)
                self.say(False, inner, (inner, inner), (inner, run[1]), (run[0], inner), (run[0], (inner,)))
                self.say(False, ((8, inner), run[1]), ((inner, 21), run[1]), [inner, inner])
                self.say(False, (run[0], (("a", inner, "x"),)), (run[0], run[1] + (inner,)))
            for times in range(1, 31):
                inner = deep(kind, "a", times)
                self.say(False, deep(kind, run, times), (run[0], ((inner, 1, "x"),)), (run[0], (("a", 1, inner),)))

    def test_what_is_asked_stays_as_it_is(self):
        thing = [[8, 21], [["a", 1, "x"]]]
        is_run(thing)
        is_run(tuple(thing))
        self.assertEqual(thing, [[8, 21], [["a", 1, "x"]]])


class Find(unittest.TestCase):
    RUN = run_of(list(ENTRIES))

    def say(self, key, answers):
        for stamp, answer in answers.items():
            with self.subTest(key=key, stamp=stamp):
                self.assertEqual(find(self.RUN, key, stamp), answer)

    def test_below_at_and_above_each_stamp_of_a_key(self):
        nine, gone, two = ENTRIES[1:4]
        self.say("a", {0: None, 1: None, 2: two, 3: two, 4: two, 5: gone, 6: gone, 8: gone, 9: nine, 10: nine})
        self.say("a", {999999999: nine})

    def test_keys_of_one_entry(self):
        self.say("a ", {0: None, 3: None, 4: ENTRIES[4], 5: ENTRIES[4], 999999999: ENTRIES[4]})
        self.say("ab", {0: None, 6: None, 7: ENTRIES[5], 8: ENTRIES[5], 999999999: ENTRIES[5]})

    def test_the_first_and_the_last_key(self):
        self.say(" ", {0: None, 2: None, 3: ENTRIES[0], 4: ENTRIES[0], 999999999: ENTRIES[0]})
        self.say("~", {0: None, 999999998: None, 999999999: ENTRIES[7]})

    def test_the_least_stamp(self):
        self.say("b", {0: None, 1: ENTRIES[6], 2: ENTRIES[6]})

    def test_a_key_that_is_not_there_where_the_sieve_may_have_it(self):
        run = run_of([("a", 1, "x"), ("a", 3, None)])
        for key in ["i", "ad"]:
            self.assertTrue(may_have(run[0], key))
            for stamp in [0, 1, 2, 3, 999999999]:
                self.assertIsNone(find(run, key, stamp))

    def test_a_key_that_is_not_there_where_the_sieve_says_no(self):
        run = run_of([("a", 1, "x"), ("a", 3, None)])
        for key in ["b", "ah", "ab", "af"]:
            self.assertFalse(may_have(run[0], key))
            for stamp in [0, 1, 2, 3, 999999999]:
                self.assertIsNone(find(run, key, stamp))

    def test_keys_near_those_that_are_there(self):
        for key in ["  ", "A", "aa", "a  ", "abc", "ab ", "ba", "c", "~~"]:
            for stamp in [0, 5, 999999999]:
                self.assertIsNone(find(self.RUN, key, stamp), key)

    def test_the_sieve_is_asked_ahead_of_the_entries(self):
        self.assertIsNone(find(((8, 0), (("a", 1, "x"),)), "a", 1))
        self.assertEqual(find(((8, 21), (("a", 1, "x"),)), "a", 1), ("a", 1, "x"))

    def test_two_hundred_entries(self):
        entries = two_hundred()
        run = run_of(list(entries))
        for entry in entries:
            self.assertEqual(find(run, entry[0], entry[1]), entry)
            self.assertEqual(find(run, entry[0], 999999999), entry)
            self.assertIsNone(find(run, entry[0], entry[1] - 1))


class Between(unittest.TestCase):
    RUN = run_of(list(ENTRIES))

    def say(self, low, high, first, behind):
        self.assertEqual(between(self.RUN, low, high), list(ENTRIES[first:behind]), (low, high))

    def test_all(self):
        self.say("", None, 0, 8)
        self.say(" ", None, 0, 8)
        self.say("", "~~", 0, 8)
        self.say("", "~" * 20, 0, 8)

    def test_bounds_that_are_keys_of_the_run(self):
        self.say("a", "b", 1, 6)
        self.say("a", "a ", 1, 4)
        self.say("a ", "ab", 4, 5)
        self.say(" ", "~", 0, 7)
        self.say("", "~", 0, 7)
        self.say("", " ", 0, 0)
        self.say("~", None, 7, 8)

    def test_bounds_near_keys_of_the_run(self):
        self.say("`", "a!", 1, 5)
        self.say("a!", "aa", 5, 5)
        self.say("a!", "ac", 5, 6)
        self.say("aa", "b ", 5, 7)
        self.say("  ", "a", 1, 1)
        self.say("}", "~ ", 7, 8)

    def test_a_low_bound_behind_all(self):
        self.say("~ ", None, 8, 8)
        self.say("~~", "~~~", 8, 8)

    def test_a_high_bound_ahead_of_all(self):
        self.say("", "", 0, 0)
        self.say("", " ", 0, 0)

    def test_no_high_bound(self):
        self.say("a", None, 1, 8)
        self.say("aa", None, 5, 8)
        self.say("b", None, 6, 8)

    def test_a_high_bound_that_does_not_come_behind_the_low_one(self):
        for low, high in [("a", "a"), ("b", "a"), ("~", " "), ("a", ""), (" ", ""), ("ab", "a"), ("a ", "a"), ("", "")]:
            self.say(low, high, 0, 0)

    def test_all_bounds_against_a_plain_walk(self):
        bounds = ["", " ", "  ", "A", "a", "a ", "a!", "aa", "ab", "abc", "b", "c", "~", "~~"]
        for low, high in itertools.product(bounds, bounds + [None]):
            told = [entry for entry in ENTRIES if entry[0] >= low and not (high is not None and entry[0] >= high)]
            self.assertEqual(between(self.RUN, low, high), told)

    def test_the_list_told_is_the_askers_own(self):
        run = run_of(list(ENTRIES))
        told = between(run, "", None)
        told.clear()
        again = between(run, "", None)
        again.append("more")
        self.assertEqual(run, self.RUN)
        self.assertEqual(between(run, "", None), list(ENTRIES))
        self.assertEqual(told, [])

    def test_what_is_told_is_a_list(self):
        self.assertIs(type(between(self.RUN, "", None)), list)
        self.assertIs(type(between(self.RUN, "b", "a")), list)


if __name__ == "__main__":
    unittest.main()
