"""[1.1] to [1.3]: keys, values, stamps, entries, deeds and their order."""

import itertools
import unittest

from tierstore.keys import are_deeds, comes_ahead, is_deed, is_entry, is_key, is_stamp, is_value, newest


class LikesAll:
    """A thing that says it is like whatever it is compared with."""

    def __eq__(self, other):
        return [other]

    def __len__(self):
        return 3


# Of the percent sign nothing is promised.
ALL_SIGNS = "".join(chr(number) for number in range(ord(" "), ord("~") + 1) if chr(number) != "%")
OTHER_KINDS = (
    True, False, None, 0, 1, 7, 999999999, -1, 1.0, 0.5, b"a", [], ["a"], (), ("a",), {}, {"a": "b"}, {"a"},
    ("put", "a", "b"), ["put", "a", "b"], ("a", 1, "b"), ["a", 1, "b"], object(), LikesAll(), str, len,
)
TEXTS = ("", "a", "1", "7", "put", " ", "a" * 20, "a" * 40)


class Asks(unittest.TestCase):
    def say(self, ask, answer, things):
        for thing in things:
            with self.subTest(repr(thing)):
                self.assertIs(ask(thing), answer)


class Keys(Asks):
    def test_one_to_twenty_signs(self):
        self.say(is_key, True, ["a", "ab", "a" * 19, "a" * 20, "12", "put"])

    def test_no_sign_or_more_than_twenty(self):
        self.say(is_key, False, ["", "a" * 21, "a" * 40, "a" * 1000])

    def test_each_sign_from_the_blank_to_the_tilde(self):
        self.say(is_key, True, list(ALL_SIGNS))
        self.say(is_key, True, [" ", "~", " " * 20, "~" * 20, " a ", "a~"])

    def test_tabs_and_line_ends_wherever_they_stand(self):
        self.say(is_key, False, ["\t", "\n", "a\t", "\ta", "a\nb", "a\n", "a" * 19 + "\n", "a" * 20 + "\n"])

    def test_things_of_other_kinds(self):
        self.say(is_key, False, OTHER_KINDS)


class Values(Asks):
    def test_none_to_forty_signs(self):
        self.say(is_value, True, ["", "a", "a" * 21, "a" * 39, "a" * 40])

    def test_more_than_forty_signs(self):
        self.say(is_value, False, ["a" * 41, "a" * 1000])

    def test_each_sign_from_the_blank_to_the_tilde(self):
        self.say(is_value, True, list(ALL_SIGNS))
        self.say(is_value, True, [" " * 40, "~" * 40, ALL_SIGNS[:40], ALL_SIGNS[-40:]])

    def test_tabs_and_line_ends_wherever_they_stand(self):
        self.say(is_value, False, ["\t", "\n", "a\t", "\ta", "a\nb", "a\n", "a" * 39 + "\n", "a" * 40 + "\n"])

    def test_things_of_other_kinds(self):
        self.say(is_value, False, OTHER_KINDS)


class Stamps(Asks):
    def test_from_one_to_the_greatest(self):
        self.say(is_stamp, True, [1, 2, 999999998, 999999999])

    def test_below_and_above(self):
        self.say(is_stamp, False, [0, -1, -999999999, 1000000000, 10 ** 30])

    def test_truths_are_no_whole_numbers(self):
        self.say(is_stamp, False, [True, False])

    def test_things_of_other_kinds(self):
        self.say(is_stamp, False, [thing for thing in OTHER_KINDS if type(thing) is not int])
        self.say(is_stamp, False, TEXTS)


class Entries(Asks):
    def test_with_a_value(self):
        self.say(is_entry, True, [("a", 1, "b"), ("a", 1, ""), (" " * 20, 999999999, "~" * 40)])

    def test_gone(self):
        self.say(is_entry, True, [("a", 1, None), ("~" * 20, 999999999, None)])

    def test_a_part_that_is_none(self):
        keys = ["", "a" * 21, "a\n", None, 1, True, ["a"], ("a",), LikesAll()]
        stamps = [0, 1000000000, -1, True, False, None, "1", 1.0, [1], LikesAll()]
        values = ["b" * 41, "b\t", False, True, 0, 1, [], (), {}, ["b"], LikesAll()]
        self.say(is_entry, False, [(key, 1, "b") for key in keys])
        self.say(is_entry, False, [("a", stamp, "b") for stamp in stamps])
        self.say(is_entry, False, [("a", stamp, None) for stamp in stamps])
        self.say(is_entry, False, [("a", 1, value) for value in values])

    def test_parts_in_another_order(self):
        self.say(is_entry, False, [(1, "a", "b"), ("a", "b", 1), (None, 1, "b"), ("a", None, "b")])

    def test_a_part_more_or_less(self):
        self.say(is_entry, False, [(), ("a",), ("a", 1), (1, "b"), ("a", 1, "b", "c"), ("a", 1, None, None)])

    def test_a_list_in_the_place_of_the_tuple(self):
        self.say(is_entry, False, [["a", 1, "b"], ["a", 1, None], [("a", 1, "b")], (("a", 1, "b"),)])

    def test_things_of_other_kinds(self):
        self.say(is_entry, False, [thing for thing in OTHER_KINDS if thing != ("a", 1, "b")])
        self.say(is_entry, False, [LikesAll(), "abc", "a1b", {"a": 1, "b": 2, "c": 3}])
        self.say(is_entry, False, TEXTS)


class Deeds(Asks):
    def test_puts(self):
        self.say(is_deed, True, [("put", "a", "b"), ("put", "a", ""), ("put", "put", "put")])
        self.say(is_deed, True, [("put", " " * 20, "~" * 40)])

    def test_drops(self):
        self.say(is_deed, True, [("drop", "a"), ("drop", "~" * 20), ("drop", "drop")])

    def test_a_part_that_is_none(self):
        keys = ["", "a" * 21, "a\n", None, 1, True, ["a"], ("a",), LikesAll()]
        values = ["b" * 41, "b\t", None, False, 0, 1, [], ("b",), LikesAll()]
        self.say(is_deed, False, [("put", key, "b") for key in keys])
        self.say(is_deed, False, [("drop", key) for key in keys])
        self.say(is_deed, False, [("put", "a", value) for value in values])

    def test_another_word(self):
        words = ["", "puts", "Put", "PUT", "pu", " put", "put ", "get", None, True, 1, ["put"], ("put",), LikesAll()]
        self.say(is_deed, False, [(word, "a", "b") for word in words + ["drop"]])
        self.say(is_deed, False, [(word, "a") for word in words + ["put", "drops", "Drop", "drop "]])

    def test_a_part_more_or_less(self):
        self.say(is_deed, False, [(), ("put",), ("drop",), ("put", "a"), ("put", "a", "b", "c"), ("drop", "a", "b")])
        self.say(is_deed, False, [("drop", "a", None), ("drop", "a", ""), ("put", "a", "b", None)])

    def test_a_list_in_the_place_of_the_tuple(self):
        self.say(is_deed, False, [["put", "a", "b"], ["drop", "a"], [("drop", "a")], (("drop", "a"),)])

    def test_things_of_other_kinds(self):
        self.say(is_deed, False, [thing for thing in OTHER_KINDS if thing != ("put", "a", "b")])
        self.say(is_deed, False, [LikesAll(), "put", "drop", {"put": 1, "a": 2, "b": 3}])
        self.say(is_deed, False, TEXTS)


class ListsOfDeeds(Asks):
    DEED = ("put", "a", "b")

    def test_one_to_twenty(self):
        self.say(are_deeds, True, [[self.DEED] * many for many in range(1, 21)])
        self.say(are_deeds, True, [[("drop", "a")], [("drop", "a"), self.DEED]])

    def test_none_and_more(self):
        self.say(are_deeds, False, [[], [self.DEED] * 21, [self.DEED] * 100])

    def test_a_deed_that_is_none(self):
        for thing in [None, ["put", "a", "b"], ("put", "a"), ("drop", ""), LikesAll()]:
            self.say(are_deeds, False, [[thing], [thing, self.DEED], [self.DEED, thing], [self.DEED] * 19 + [thing]])

    def test_things_of_other_kinds(self):
        self.say(are_deeds, False, OTHER_KINDS + TEXTS + ((self.DEED,), {self.DEED: self.DEED}, {self.DEED}))


class Order(unittest.TestCase):
    def check_ahead(self, first, second):
        self.assertIs(comes_ahead(first, second), True)
        self.assertIs(comes_ahead(second, first), False)

    def test_two_unlike_keys(self):
        self.check_ahead(("a", 1, "x"), ("b", 1, "x"))

    def test_keys_count_ahead_of_stamps_and_values(self):
        self.check_ahead(("a", 1, "x"), ("b", 2, "w"))
        self.check_ahead(("a", 2, "x"), ("b", 1, None))

    def test_keys_are_compared_as_texts(self):
        for first, second in [("B", "a"), ("10", "9"), (" ", "!"), ("z", "~"), ("aZ", "aa"), ("a b", "ab")]:
            with self.subTest(first=first, second=second):
                self.check_ahead((first, 1, "x"), (second, 1, "x"))

    def test_a_key_that_is_the_beginning_of_another(self):
        self.check_ahead(("a", 1, "x"), ("ab", 5, "x"))
        self.check_ahead(("a", 5, "x"), ("a ", 1, "x"))

    def test_of_one_key_the_greater_stamp_stands_ahead(self):
        self.check_ahead(("a", 2, "x"), ("a", 1, "x"))
        self.check_ahead(("a", 10, None), ("a", 9, "x"))
        self.check_ahead(("a", 999999999, "x"), ("a", 1, None))

    def test_an_entry_and_itself(self):
        for entry in [("a", 1, "x"), ("a", 1, None)]:
            self.assertIs(comes_ahead(entry, entry), False)


class Newest(unittest.TestCase):
    ENTRIES = [("a", 9, "nine"), ("a", 5, None), ("a", 2, "two"), ("aa", 7, "other"), ("b", 4, ""), ("b", 3, "three")]

    def test_below_at_and_above_the_stamps_that_are_there(self):
        answers = {
            0: None, 1: None, 2: ("a", 2, "two"), 4: ("a", 2, "two"), 5: ("a", 5, None), 8: ("a", 5, None),
            9: ("a", 9, "nine"), 10: ("a", 9, "nine"), 999999999: ("a", 9, "nine"),
        }
        for stamp, answer in answers.items():
            with self.subTest(stamp):
                self.assertEqual(newest(self.ENTRIES, "a", stamp), answer)

    def test_another_key_has_its_own(self):
        self.assertEqual(newest(self.ENTRIES, "b", 999999999), ("b", 4, ""))
        self.assertEqual(newest(self.ENTRIES, "b", 3), ("b", 3, "three"))
        self.assertIsNone(newest(self.ENTRIES, "b", 2))
        self.assertEqual(newest(self.ENTRIES, "aa", 8), ("aa", 7, "other"))

    def test_the_greatest_stamp_that_may_be(self):
        entries = [("a", 999999999, "x"), ("a", 999999998, "y")]
        self.assertEqual(newest(entries, "a", 999999999), ("a", 999999999, "x"))
        self.assertEqual(newest(entries, "a", 999999998), ("a", 999999998, "y"))

    def test_a_key_that_is_not_there(self):
        for key in ["A", "c", "a ", " a", "aaa"]:
            with self.subTest(key):
                self.assertIsNone(newest(self.ENTRIES, key, 999999999))

    def test_an_empty_list(self):
        for stamp in [0, 1, 999999999]:
            self.assertIsNone(newest([], "a", stamp))

    def test_the_list_in_any_order(self):
        for entries in itertools.permutations(self.ENTRIES):
            self.assertEqual(newest(list(entries), "a", 8), ("a", 5, None))
            self.assertEqual(newest(list(entries), "a", 999999999), ("a", 9, "nine"))
            self.assertEqual(newest(list(entries), "b", 4), ("b", 4, ""))

    def test_the_list_stays_as_it_is(self):
        entries = list(reversed(self.ENTRIES))
        newest(entries, "a", 5)
        newest(entries, "c", 5)
        self.assertEqual(entries, list(reversed(self.ENTRIES)))


if __name__ == "__main__":
    unittest.main()
