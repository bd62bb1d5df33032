"""[6.1]: the parts, where entries lie."""

import random
import unittest

from tierstore.hands import Hand
from tierstore.parts import InHand, InRun, Part
from tierstore.runs import run_of
from tierstore.sieves import may_have

ENTRIES = [
    (" ", 3, "blank"), ("a", 9, "nine"), ("a", 5, None), ("a", 2, ""), ("a ", 4, "four"), ("ab", 7, None),
    ("b", 1, "end"), ("~", 999999999, "last"),
]
BOUNDS = ["", " ", "a", "a ", "ab", "b", "c", "~", "~~", "a" * 20]
STAMPS = [0, 1, 2, 3, 4, 5, 6, 7, 8, 9, 10, 999999998, 999999999]


def hand_of(entries):
    hand = Hand()
    for entry in entries:
        hand.put(*entry)
    return hand


def parts_of(entries):
    """The same entries as they lie in hand and in a run, whatever order they came in."""
    return [InHand(hand_of(entries)), InHand(hand_of(entries[::-1])), InRun(12, run_of(entries))]


class OfNothing(unittest.TestCase):
    def test_it_has_nothing(self):
        part = Part()
        self.assertEqual(part.called(), "")
        self.assertIs(part.says("a"), False)
        self.assertIsNone(part.find("a", 999999999))
        self.assertEqual(part.between("", None), [])
        self.assertEqual(part.between("a", "b"), [])

    def test_what_it_tells_is_the_askers_own(self):
        part = Part()
        part.between("", None).append("more")
        self.assertEqual(part.between("", None), [])

    def test_the_others_stand_under_it(self):
        for part in parts_of(ENTRIES):
            self.assertIsInstance(part, Part)
        self.assertNotIsInstance(InHand(Hand()), InRun)
        self.assertNotIsInstance(InRun(1, run_of(ENTRIES)), InHand)


class Names(unittest.TestCase):
    def test_the_hand(self):
        self.assertEqual(InHand(Hand()).called(), "hand")
        self.assertEqual(InHand(hand_of(ENTRIES)).called(), "hand")

    def test_a_run_with_noughts_ahead(self):
        told = {1: "run0000001", 12: "run0000012", 100: "run0000100", 999999: "run0999999", 9999999: "run9999999"}
        for number, name in told.items():
            self.assertEqual(InRun(number, run_of(ENTRIES)).called(), name)


class Says(unittest.TestCase):
    def test_the_hand_says_true_just_where_it_has_the_key(self):
        part = InHand(hand_of(ENTRIES))
        for key in [" ", "a", "a ", "ab", "b", "~"]:
            self.assertIs(part.says(key), True)
        for key in ["", "  ", "A", "aa", "abc", "c", "~~", "ba"]:
            self.assertIs(part.says(key), False)

    def test_the_hand_of_a_key_that_is_gone(self):
        self.assertIs(InHand(hand_of([("a", 1, None)])).says("a"), True)

    def test_the_hand_of_the_greatest_stamp_alone(self):
        self.assertIs(InHand(hand_of([("a", 999999999, "x")])).says("a"), True)

    def test_an_empty_hand(self):
        self.assertIs(InHand(Hand()).says("a"), False)

    def test_a_run_says_what_its_sieve_says(self):
        chance = random.Random(61)
        words = [chance.choice("abcdef") * chance.randint(1, 3) + str(number) for number in range(400)]
        told = []
        for case in range(40):
            own = chance.sample(words, chance.randint(1, 12))
            run = run_of([(key, number + 1, "") for number, key in enumerate(own)])
            part = InRun(1, run)
            for key in words:
                self.assertIs(part.says(key), may_have(run[0], key))
                self.assertTrue(part.says(key) or key not in own)
                told.append((key in own, part.says(key)))
        # A sieve that says yes of what is not there is among them, so that a plain look at the keys would not do.
        self.assertEqual(sorted(set(told)), [(False, False), (False, True), (True, True)])

    def test_a_run_of_one_key(self):
        part = InRun(1, run_of([("a", 1, None)]))
        self.assertEqual([part.says(key) for key in ["a", "b"]], [True, False])


class FindAndBetween(unittest.TestCase):
    def test_find(self):
        for part in parts_of(ENTRIES):
            for key in BOUNDS[1:]:
                for stamp in STAMPS:
                    own = [entry for entry in ENTRIES if entry[0] == key and entry[1] <= stamp]
                    self.assertEqual(part.find(key, stamp), max(own, key=lambda entry: entry[1], default=None))

    def test_find_of_a_key_that_is_gone_tells_the_entry(self):
        for part in parts_of(ENTRIES):
            self.assertEqual(part.find("a", 8), ("a", 5, None))

    def test_between(self):
        for part in parts_of(ENTRIES):
            self.assertEqual(part.between("", None), ENTRIES)
            for low in BOUNDS:
                self.assertEqual(part.between(low, None), [entry for entry in ENTRIES if entry[0] >= low])
                for high in BOUNDS:
                    self.assertEqual(part.between(low, high), [entry for entry in ENTRIES if low <= entry[0] < high])

    def test_bounds_alike_and_high_below_low(self):
        for part in parts_of(ENTRIES):
            self.assertEqual((part.between("a", "a"), part.between("b", "a"), part.between("", "")), ([], [], []))

    def test_what_is_told_is_the_askers_own(self):
        for part in parts_of(ENTRIES):
            part.between("", None).clear()
            self.assertEqual(part.between("", None), ENTRIES)


class AHandThatIsChangedLater(unittest.TestCase):
    def test_it_tells_what_the_hand_has_when_asked(self):
        hand = Hand()
        part = InHand(hand)
        self.assertEqual((part.says("a"), part.find("a", 9), part.between("", None)), (False, None, []))
        hand.put("a", 1, "x")
        self.assertEqual((part.says("a"), part.find("a", 9), part.between("", None)),
                         (True, ("a", 1, "x"), [("a", 1, "x")]))
        hand.put("a", 2, None)
        self.assertEqual((part.says("a"), part.find("a", 9)), (True, ("a", 2, None)))
        self.assertEqual(part.between("", None), [("a", 2, None), ("a", 1, "x")])
        hand.clear()
        self.assertEqual((part.says("a"), part.find("a", 9), part.between("", None)), (False, None, []))

    def test_what_was_told_ahead_stays(self):
        hand = hand_of([("a", 1, "x")])
        told = InHand(hand).between("", None)
        hand.put("b", 2, "y")
        hand.clear()
        self.assertEqual(told, [("a", 1, "x")])

    def test_the_hand_is_not_changed_by_asking(self):
        hand = hand_of(ENTRIES)
        part = InHand(hand)
        part.says("new")
        part.find("new", 3)
        part.between("new", None)
        self.assertEqual((hand.rows(), hand.many()), (ENTRIES, 8))


if __name__ == "__main__":
    unittest.main()
