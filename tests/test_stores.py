"""[6.2], [6.3], [6.6] to [6.9]: the store, its deeds, what it is asked, snapshots, and what is refused."""

import itertools
import random
import unittest

from tests.plain import Model, Plain, check_answers
from tierstore.disks import Disk
from tierstore.errors import BadDeed, BadKey, BadValue, NoSnapshot, Stopped, TierError
from tierstore.hands import Hand
from tierstore.journals import read_journal
from tierstore.runs import run_of
from tierstore.sieves import may_have, sieve_of
from tierstore.stores import Store, on

NO_KEYS = ["", "k" * 21, "a\n", "a\tb", None, 1, True, 1.5, b"a", ["a"], ("a",), {}]
NO_VALUES = ["v" * 41, "\n", "a\tb", None, 0, False, 1.5, b"", [], (), {}]
DEED = ("put", "a", "x")
NO_DEEDS = [
    [], [DEED] * 21, None, "put", 7, True, DEED, (DEED,), {"put": DEED}, [list(DEED)], [DEED, None],
    [DEED, ("put", "a")], [("drop", "a", "x")], [("drop",)], [("put", "", "x")], [("put", "k" * 21, "x")],
    [("put", "a", "v" * 41)], [("put", "a", None)], [("drop", "")], [("take", "a")], [DEED, ("drop", "a\n")],
    [DEED] * 19 + [("drop", 1)], [[]],
]
NO_SNAPSHOTS = [0, 2, 4, -1, 10 ** 9, 10 ** 30, True, False, 1.0, 3.0, "1", "", [], [1], (), {}, b""]
TIERS = (20, 60, ((19, 17, 12), (9,), (4,)))
RUNS = {
    19: run_of([("a", 51, "a51"), ("b", 52, None)]),
    17: run_of([("a", 41, None), ("c", 42, "c42")]),
    12: run_of([("d", 31, "d31"), ("b", 32, "b32")]),
    9: run_of([("a", 21, "a21"), ("e", 22, "e22"), ("b", 23, "b23")]),
    4: run_of([("a", 11, "a11"), ("f", 12, "f12"), ("e", 13, "e13")]),
}


def store_of_all_tiers(disk=None):
    hand = Hand()
    hand.put("g", 61, "g61")
    hand.put("d", 62, None)
    return on(disk or Disk(), TIERS, RUNS, hand, 62, 8, 4)


def state_of(store, disk):
    return (disk.files(), disk.steps(), store.held(), store.tiers(), store.many(), store.walk())


class Made(unittest.TestCase):
    def test_a_new_one_has_nothing_and_takes_no_step(self):
        disk = Disk()
        store = Store(disk)
        self.assertEqual((store.tiers(), store.many(), store.held()), ((1, 0, ((), (), ())), 0, []))
        self.assertEqual((store.walk(), store.ask("a"), store.road("a")), ([], None, [("hand", "sieve")]))
        self.assertEqual((disk.files(), disk.steps(), disk.has_stopped()), ({}, 0, False))

    def many_until_poured(self, store):
        number = 0
        while store.tiers()[0] == 1:
            number += 1
            store.put("k" + str(number), "")
        return number

    def runs_until_poured(self, store):
        number, most = 0, 0
        while store.tiers()[2][1] == ():
            number += 1
            store.put("k" + str(number), "")
            most = max(most, len(store.tiers()[2][0]))
        return most + 1

    def test_widths(self):
        for width in [1, 2, 8, 199, 200]:
            self.assertEqual(self.many_until_poured(Store(Disk(), width)), width)
            self.assertEqual(self.many_until_poured(Store(Disk(), width, 2)), width)

    def test_fans(self):
        for width, fan in itertools.product([1, 8], [2, 3, 8]):
            self.assertEqual(self.runs_until_poured(Store(Disk(), width, fan)), fan)

    def test_width_and_fan_left_out(self):
        self.assertEqual(self.many_until_poured(Store(Disk())), 8)
        self.assertEqual(self.runs_until_poured(Store(Disk())), 3)
        self.assertEqual(self.runs_until_poured(Store(Disk(), 1)), 3)

    def test_two_stores_have_nothing_in_common(self):
        one, other = Store(Disk()), Store(Disk())
        one.put("a", "x")
        one.snapshot()
        self.assertEqual((other.ask("a"), other.held(), other.many(), other.put("b", "")), (None, [], 0, 1))


class OfAllTiers(unittest.TestCase):
    """A store on a disk with things on it."""

    def test_the_order_of_the_parts(self):
        names = [pair[0] for pair in store_of_all_tiers().road("a")]
        self.assertEqual(names, ["hand", "run0000019", "run0000017", "run0000012", "run0000009", "run0000004"])

    def test_what_it_has(self):
        disk = Disk({"journal": "whatever"})
        store = store_of_all_tiers(disk)
        self.assertEqual((store.tiers(), store.held(), store.many()), (TIERS, [], 14))
        pairs = [("a", "a51"), ("c", "c42"), ("e", "e22"), ("f", "f12"), ("g", "g61")]
        self.assertEqual(store.walk(), pairs)
        self.assertEqual([store.ask(key) for key in "abcdefgh"], [dict(pairs).get(key) for key in "abcdefgh"])
        self.assertEqual((disk.files(), disk.steps()), ({"journal": "whatever"}, 0))

    def test_it_goes_on_from_the_stamp_given_last(self):
        store = store_of_all_tiers()
        self.assertEqual((store.snapshot(), store.put("a", "new"), store.snapshot()), (62, 63, 63))
        self.assertEqual((store.ask("a"), store.ask("a", 62), store.held()), ("new", "a51", [62, 63]))

    def test_its_width_and_fan(self):
        disk = Disk({"run" + str(number).zfill(7): "" for number in RUNS})
        store = on(disk, TIERS, RUNS, Hand(), 62, 2, 4)
        store.put("x", "1")
        self.assertEqual(store.tiers(), TIERS)
        store.put("y", "2")
        # Four runs in tier 0, so they and tier 1's are poured too.
        self.assertEqual(store.tiers(), (22, 64, ((), (21,), (4,))))

    def test_the_runs_handed_in_stay(self):
        runs = dict(RUNS)
        disk = Disk({"run" + str(number).zfill(7): "" for number in RUNS})
        store = on(disk, TIERS, runs, Hand(), 62, 1, 4)
        runs.pop(19)
        self.assertEqual(store.ask("a"), "a51")
        runs = dict(RUNS)
        store = on(Disk(disk.files()), TIERS, runs, Hand(), 62, 1, 4)
        store.put("x", "1")
        self.assertEqual((runs, store.tiers()), (RUNS, (22, 63, ((), (21,), (4,)))))

    def test_entries_that_stand_deeper_than_older_ones(self):
        """Whichever part has the greatest stamp, that one is answered."""
        hand = Hand()
        hand.put("a", 3, "hand")
        hand.put("b", 3, None)
        runs = {1: run_of([("a", 5, "deep"), ("b", 5, "deep")]), 2: run_of([("a", 4, None), ("b", 6, None)])}
        store = on(Disk(), (3, 0, ((2,), (), (1,))), runs, hand, 6, 8, 3)
        self.assertEqual((store.ask("a"), store.ask("b"), store.walk()), ("deep", None, [("a", "deep")]))


class Deeds(unittest.TestCase):
    def test_the_stamps_of_puts_drops_and_batches_in_turn(self):
        store = Store(Disk(), 3, 2)
        told = []
        for number in range(30):
            told.append(store.put("a", str(number)))
            told.append(store.drop("a" if number % 2 else "b"))
            told.append(store.both([("put", "c", ""), ("drop", "a")]))
            store.pour()
        self.assertEqual(told, list(range(1, 91)))

    def test_the_journal_behind_each(self):
        disk = Disk()
        store = Store(disk)
        texts = ["000000001 01 00006\np01ax\n", "000000002 01 00005\ng01a\n", "000000003 02 00013\np02b \ng03 b \n"]
        store.put("a", "x")
        self.assertEqual(disk.files(), {"journal": texts[0]})
        store.drop("a")
        self.assertEqual(disk.files(), {"journal": texts[0] + texts[1]})
        store.both([("put", "b ", ""), ("drop", " b ")])
        self.assertEqual((disk.files(), disk.steps()), ({"journal": "".join(texts)}, 3))

    def test_each_record_has_its_deeds_in_their_order(self):
        disk = Disk()
        store = Store(disk, 200)
        for number in range(1, 15):
            deeds = [("put", "k" + str(each), "v") for each in range(number)] + [("drop", "a")]
            self.assertEqual(store.both(deeds), number)
            self.assertEqual(read_journal(disk.text("journal"))[-1], (number, deeds))

    def test_the_hand_has_an_entry_of_each_stamp(self):
        store = Store(Disk(), 200)
        store.put("a", "x")
        store.put("a", "x")
        store.drop("a")
        store.drop("never")
        self.assertEqual(store.many(), 4)

    def test_of_two_deeds_of_a_batch_with_one_key_the_later_one_counts(self):
        put, drop, other = ("put", "a", "x"), ("drop", "a"), ("put", "a", "y")
        told = [([put, drop], None), ([drop, put], "x"), ([put, other], "y"), ([other, put], "x"), ([drop, drop], None),
                ([put, drop, other], "y"), ([put, other, drop], None), ([put, ("put", "b", ""), drop, other], "y")]
        for deeds, value in told:
            for ahead in [[], [("a", "old")]]:
                store = Store(Disk())
                for pair in ahead:
                    store.put(*pair)
                many = len(ahead) + len({deed[1] for deed in deeds})
                store.both(deeds)
                self.assertEqual((store.ask("a"), store.many()), (value, many))

    def test_a_batch_of_one_and_of_twenty(self):
        store = Store(Disk(), 200)
        self.assertEqual(store.both([("put", "a", "x")]), 1)
        self.assertEqual(store.both([("put", "k" + str(number), str(number)) for number in range(20)]), 2)
        self.assertEqual((store.ask("a"), store.ask("k0"), store.ask("k19"), store.many()), ("x", "0", "19", 21))

    def test_the_edges_of_keys_and_values(self):
        store = Store(Disk(), 2, 2)
        pairs = [(" ", ""), ("~", "v" * 40), ("k" * 20, " "), ('"', '""'), (" , ", "put"), ("0", "0")]
        for key, value in pairs:
            store.put(key, value)
        self.assertEqual(store.walk(), sorted(pairs))

    def test_the_list_handed_in_stays(self):
        deeds = [("put", "a", "x"), ("drop", "b")]
        store = Store(Disk())
        store.both(deeds)
        self.assertEqual(deeds, [("put", "a", "x"), ("drop", "b")])
        deeds.clear()
        self.assertEqual((store.ask("a"), store.many()), ("x", 2))


class AskAndWalk(unittest.TestCase):
    KEYS = [" ", "a", "a ", "ab", "b", "ba", "c", "d", "never", "~"]

    def test_by_a_plain_dict_now_and_at_each_snapshot(self):
        chance = random.Random(66)
        deepest = 0
        for case in range(60):
            width, fan = chance.choice([1, 2, 3, 5]), chance.choice([2, 3])
            store, plain, held = Store(Disk(), width, fan), Plain(), []
            for number in range(50):
                deeds = [("put", chance.choice(self.KEYS[:-2]), "v" + str(number)) if chance.random() < 0.6
                         else ("drop", chance.choice(self.KEYS[:-2])) for each in range(chance.choice([1, 1, 1, 2, 4]))]
                self.assertEqual(store.both(deeds), plain.tell(deeds))
                if chance.random() < 0.15:
                    held.append(store.snapshot())
                if held and chance.random() < 0.1:
                    store.release(held.pop(chance.randrange(len(held))))
                if chance.random() < 0.1:
                    store.pour()
                if number % 5 == 0:
                    check_answers(self, store, plain, self.KEYS, [None] + held)
            deepest += len(store.tiers()[2][2])
        self.assertGreater(deepest, 5)

    def test_a_key_that_is_in_each_tier(self):
        store, plain = Store(Disk(), 1, 2), Plain()
        held = []
        for number in range(24):
            for deed in [("put", "b", "b"), ("put", "a", str(number))] if number % 3 else [("drop", "a")]:
                self.assertEqual(store.both([deed]), plain.tell([deed]))
            held.append(store.snapshot())
        self.assertEqual([len(row) for row in store.tiers()[2]], [1, 1, 1])
        self.assertEqual([word for name, word in store.road("a")], ["sieve", "there", "there", "there"])
        check_answers(self, store, plain, ["a", "b", "c"], [None] + held)

    def test_a_key_that_is_gone_in_a_newer_part(self):
        store = Store(Disk(), 2, 4)
        store.put("a", "x")
        store.put("b", "y")
        self.assertEqual((store.snapshot(), store.tiers()[2]), (2, ((1,), (), ())))
        store.drop("a")
        self.assertEqual((store.ask("a"), store.ask("a", 2), store.walk()), (None, "x", [("b", "y")]))
        store.pour()
        self.assertEqual(store.tiers()[2], ((2, 1), (), ()))
        self.assertEqual((store.ask("a"), store.ask("a", 2), store.walk()), (None, "x", [("b", "y")]))
        store.put("a", "again")
        self.assertEqual((store.ask("a"), store.ask("a", 2)), ("again", "x"))

    def test_a_value_of_no_signs_is_a_value(self):
        store = Store(Disk())
        store.put("a", "")
        self.assertEqual((store.ask("a"), store.walk()), ("", [("a", "")]))

    def test_at_nought_nothing_is_there(self):
        store = Store(Disk(), 2)
        store.snapshot()
        for key in "abc":
            store.put(key, key)
        self.assertEqual((store.ask("a", 0), store.walk("", None, 0), store.ask("a")), (None, [], "a"))

    def test_what_was_done_later_is_not_seen_at_a_snapshot(self):
        store = Store(Disk())
        store.put("a", "old")
        at = store.snapshot()
        store.put("a", "new")
        store.put("b", "new")
        self.assertEqual((store.walk("", None, at), store.walk()), ([("a", "old")], [("a", "new"), ("b", "new")]))
        self.assertEqual(store.walk("", None, None), store.walk())

    def test_bounds(self):
        for width in [1, 3, 200]:
            store = Store(Disk(), width, 2)
            keys = [" ", "a", "a ", "ab", "b", "ba", "c", "~"]
            for key in keys[::-1]:
                store.put(key, key)
            bounds = ["", " ", "a", "a ", "aa", "ab", "b", "bz", "~", "~" * 20]
            for low, high in itertools.product(bounds, bounds + [None]):
                told = [(key, key) for key in keys if low <= key and (high is None or key < high)]
                self.assertEqual(store.walk(low, high), told)
            self.assertEqual((store.walk("a", "a"), store.walk("b", "a"), store.walk("", "")), ([], [], []))
            self.assertEqual(store.walk("b"), [(key, key) for key in ["b", "ba", "c", "~"]])

    def test_what_is_told_is_the_askers_own(self):
        store = Store(Disk(), 3)
        for key in "abcd":
            store.put(key, key)
        told = store.walk()
        road = store.road("a")
        store.drop("a")
        store.put("e", "e")
        self.assertEqual(told, [(key, key) for key in "abcd"])
        self.assertEqual(len(road), 2)
        store.walk().clear()
        self.assertEqual(store.walk(), [(key, key) for key in "bcde"])

    def test_asking_changes_nothing(self):
        disk = Disk()
        store = Store(disk, 3, 2)
        for key in "abcdefgh":
            store.put(key, key)
        ahead = state_of(store, disk)
        for time in range(2):
            store.ask("a")
            store.walk("b", "d")
            store.road("e")
            store.held()
            self.assertEqual(state_of(store, disk), ahead)


class Road(unittest.TestCase):
    def test_each_of_the_three_words(self):
        store = Store(Disk(), 1, 8)
        store.put("a", "x")
        at = store.snapshot()
        store.put("a", "y")
        self.assertEqual(store.road("a"), [("hand", "sieve"), ("run0000002", "there"), ("run0000001", "there")])
        self.assertEqual(store.road("a", at), [("hand", "sieve"), ("run0000002", "none"), ("run0000001", "there")])
        self.assertEqual(store.road("b"), [("hand", "sieve"), ("run0000002", "sieve"), ("run0000001", "sieve")])
        self.assertEqual(store.road("a", None), store.road("a"))

    def test_the_hand(self):
        store = Store(Disk())
        self.assertEqual(store.road("a"), [("hand", "sieve")])
        at = store.snapshot()
        store.drop("a")
        self.assertEqual((store.road("a"), store.road("a", at)), ([("hand", "there")], [("hand", "none")]))
        self.assertEqual(store.road("b"), [("hand", "sieve")])

    def test_a_sieve_that_says_yes_of_what_is_not_there(self):
        other = next(key for key in ["k" + str(number) for number in range(9999)] if may_have(sieve_of(["a"]), key))
        store = Store(Disk(), 1, 8)
        store.put("a", "x")
        self.assertEqual(store.road(other), [("hand", "sieve"), ("run0000001", "none")])
        self.assertIsNone(store.ask(other))

    def test_by_what_lies_in_each_part(self):
        chance = random.Random(67)
        keys = [chance.choice("abc") + str(number) for number in range(12)]
        words = []
        for case in range(25):
            width, fan = chance.choice([1, 2, 4]), chance.choice([2, 3])
            store, model = Store(Disk(), width, fan), Model(width, fan)
            for number in range(40):
                deeds = [("put", chance.choice(keys), "v") if chance.random() < 0.7 else ("drop", chance.choice(keys))]
                self.assertEqual(store.both(deeds), model.tell(deeds))
                if chance.random() < 0.2:
                    model.held.append(store.snapshot())
            for key, at in itertools.product(keys, [None] + model.held):
                told = []
                for name, entries in model.parts():
                    keys_there = [entry[0] for entry in entries]
                    stamps = [entry[1] for entry in entries if entry[0] == key and (at is None or entry[1] <= at)]
                    says = key in keys_there if name == "hand" else may_have(sieve_of(keys_there), key)
                    told.append((name, "there" if stamps else "none" if says else "sieve"))
                self.assertEqual(store.road(key, at), told)
                words += [word for name, word in told]
        self.assertEqual(sorted(set(words)), ["none", "sieve", "there"])


class Snapshots(unittest.TestCase):
    def test_the_stamp_given_last(self):
        store = Store(Disk(), 2)
        self.assertEqual((store.snapshot(), store.held()), (0, [0]))
        store.put("a", "x")
        self.assertEqual((store.snapshot(), store.held()), (1, [0, 1]))
        store.both([("put", "b", "y"), ("drop", "a")])
        self.assertEqual((store.snapshot(), store.snapshot(), store.held()), (2, 2, [0, 1, 2, 2]))

    def test_it_takes_no_step(self):
        disk = Disk()
        store = Store(disk)
        store.snapshot()
        store.release(0)
        self.assertEqual((disk.steps(), disk.files()), (0, {}))

    def test_a_stamp_held_twice_and_let_go_once(self):
        store = Store(Disk(), 1, 2)
        store.put("a", "x")
        self.assertEqual((store.snapshot(), store.snapshot()), (1, 1))
        self.assertIsNone(store.release(1))
        for number in range(20):
            store.put("a", str(number))
        self.assertEqual((store.held(), store.ask("a", 1), store.walk("", None, 1)), ([1], "x", [("a", "x")]))
        store.release(1)
        self.assertEqual(store.held(), [])
        with self.assertRaises(NoSnapshot):
            store.ask("a", 1)
        with self.assertRaises(NoSnapshot):
            store.release(1)

    def test_nought_held(self):
        store = Store(Disk())
        store.snapshot()
        store.put("a", "x")
        self.assertEqual((store.ask("a", 0), store.held()), (None, [0]))
        store.release(0)
        self.assertEqual(store.held(), [])

    def test_let_go_in_another_order(self):
        store = Store(Disk())
        for number in range(4):
            store.snapshot()
            store.put("a", str(number))
        store.release(2)
        self.assertEqual(store.held(), [0, 1, 3])
        store.snapshot()
        store.release(0)
        self.assertEqual(store.held(), [1, 3, 4])

    def test_the_list_told_is_the_askers_own(self):
        store = Store(Disk())
        store.snapshot()
        told = store.held()
        told.append(7)
        self.assertEqual(store.held(), [0])
        store.put("a", "x")
        store.snapshot()
        self.assertEqual(told, [0, 7])
        with self.assertRaises(NoSnapshot):
            store.ask("a", 7)

    def test_forty_of_them(self):
        store, plain, held = Store(Disk(), 4, 2), Plain(), []
        for number in range(40):
            deeds = [("put", "k" + str(number % 7), str(number))]
            self.assertEqual(store.both(deeds), plain.tell(deeds))
            held.append(store.snapshot())
        store.pour()
        self.assertEqual(store.held(), held)
        check_answers(self, store, plain, ["k" + str(number) for number in range(8)], [None] + held)


class Refused(unittest.TestCase):
    def store_and_disk(self):
        """With snapshots at 1 and 3, some in hand and some in runs."""
        disk = Disk()
        store = Store(disk, 3, 2)
        store.put("a", "x")
        store.snapshot()
        store.put("b", "y")
        store.put("c", "z")
        store.snapshot()
        store.drop("b")
        return store, disk

    def check_refused(self, error, word, *arguments):
        store, disk = self.store_and_disk()
        ahead = state_of(store, disk)
        with self.assertRaises(error) as caught:
            getattr(store, word)(*arguments)
        self.assertIs(type(caught.exception), error)
        self.assertEqual(state_of(store, disk), ahead)
        self.assertEqual(store.put("d", "v"), 5)
        return caught.exception

    def test_what_is_no_key(self):
        for key in NO_KEYS:
            self.check_refused(BadKey, "put", key, "x")
            self.check_refused(BadKey, "drop", key)
            self.check_refused(BadKey, "ask", key)
            self.check_refused(BadKey, "ask", key, 3)
            self.check_refused(BadKey, "road", key)
            self.check_refused(BadKey, "road", key, 1)

    def test_what_is_no_value(self):
        for value in NO_VALUES:
            self.check_refused(BadValue, "put", "a", value)

    def test_what_is_no_list_of_deeds(self):
        for deeds in NO_DEEDS:
            self.check_refused(BadDeed, "both", deeds)

    def test_what_is_no_list_of_deeds_where_no_stamp_is_left(self):
        disk = Disk()
        store = on(disk, (1, 0, ((), (), ())), {}, Hand(), 999999999, 8, 3)
        for deeds in NO_DEEDS:
            with self.assertRaises(BadDeed):
                store.both(deeds)
        self.assertEqual((disk.files(), store.snapshot()), ({}, 999999999))

    def test_what_is_not_held(self):
        for at in NO_SNAPSHOTS:
            for call in [("ask", "a", at), ("walk", "", None, at), ("road", "a", at), ("release", at)]:
                refusal = self.check_refused(NoSnapshot, *call)
                self.assertIs(type(refusal.stamp), type(at))
                self.assertEqual(refusal.stamp, at)

    def test_none_is_now_but_for_release(self):
        self.assertIsNone(self.check_refused(NoSnapshot, "release", None).stamp)

    def test_true_and_false_are_no_stamps_held(self):
        store = Store(Disk())
        store.snapshot()
        store.put("a", "x")
        store.snapshot()
        for at in [True, False]:
            for call in [("ask", "a", at), ("walk", "", None, at), ("road", "a", at), ("release", at)]:
                with self.assertRaises(NoSnapshot) as caught:
                    getattr(store, call[0])(*call[1:])
                self.assertIs(caught.exception.stamp, at)
        self.assertEqual(store.held(), [0, 1])

    def test_a_key_ahead_of_a_value_and_of_a_snapshot(self):
        for key, value in itertools.product(NO_KEYS, NO_VALUES):
            self.check_refused(BadKey, "put", key, value)
        for key, at in itertools.product(NO_KEYS, NO_SNAPSHOTS):
            self.check_refused(BadKey, "ask", key, at)
            self.check_refused(BadKey, "road", key, at)

    def test_it_is_a_tier_error(self):
        for error in [BadKey, BadValue, BadDeed, NoSnapshot, Stopped]:
            self.assertTrue(issubclass(error, TierError))


class AStop(unittest.TestCase):
    CALLS = [
        ("put", "a", "x"), ("drop", "a"), ("both", [DEED]), ("pour",), ("release", 1), ("ask", "a"), ("ask", "a", 1),
        ("walk",), ("walk", "a", "b", 1), ("road", "a"), ("road", "a", 1), ("snapshot",), ("held",), ("tiers",),
        ("many",),
    ]
    WRONG = [
        ("put", "", "x"), ("put", "a", None), ("put", "", None), ("drop", ""), ("both", []), ("both", None),
        ("ask", ""), ("ask", "", 9), ("ask", "a", 9), ("walk", "", None, 9), ("road", "", 9), ("road", "a", 9),
        ("release", 9), ("release", None),
    ]

    def refused(self, store, disk, many):
        for call in self.CALLS + self.WRONG + self.CALLS:
            ahead = disk.files()
            with self.assertRaises(Stopped) as caught:
                getattr(store, call[0])(*call[1:])
            self.assertEqual((caught.exception.step, disk.files(), disk.steps()), (many, ahead, many))

    def test_all_is_refused_with_the_same_number(self):
        for many, torn in itertools.product(range(12), [0, 5, 99]):
            disk = Disk(None, many, torn)
            store = Store(disk, 2, 2)
            with self.assertRaises(Stopped) as caught:
                store.snapshot()
                for number in range(20):
                    store.put("k" + str(number), "v")
                    store.snapshot()
            self.assertEqual((caught.exception.step, disk.steps()), (many, many))
            self.refused(store, disk, many)

    def test_a_disk_that_another_brought_to_its_stop(self):
        disk = Disk(None, 1)
        store = Store(disk)
        store.put("a", "x")
        store.snapshot()
        with self.assertRaises(Stopped):
            disk.write("other", "")
        self.refused(store, disk, 1)

    def test_made_on_one_that_has_stopped(self):
        disk = Disk(None, 0)
        with self.assertRaises(Stopped):
            disk.write("other", "")
        self.refused(Store(disk), disk, 0)

    def test_one_at_its_stop_has_not_stopped(self):
        disk = Disk(None, 1)
        store = Store(disk)
        store.put("a", "x")
        self.assertEqual((store.snapshot(), store.ask("a", 1), store.walk(), store.many()), (1, "x", [("a", "x")], 1))
        self.assertEqual((store.road("a"), store.held(), store.release(1)), ([("hand", "there")], [1], None))
        with self.assertRaises(BadKey):
            store.put("", "x")
        self.assertIs(disk.has_stopped(), False)
        with self.assertRaises(Stopped):
            store.put("a", "y")

    def test_an_empty_hand_is_not_poured_so_nothing_stops(self):
        disk = Disk(None, 0)
        self.assertIsNone(Store(disk).pour())
        self.assertIs(disk.has_stopped(), False)

    def test_of_a_stop_amid_a_telling_nothing_is_answered(self):
        disk = Disk(None, 2)
        store = Store(disk, 1, 2)
        with self.assertRaises(Stopped) as caught:
            store.put("a", "x")
        self.assertEqual((caught.exception.step, disk.names()), (2, ["journal", "run0000001"]))
        self.refused(store, disk, 2)


if __name__ == "__main__":
    unittest.main()
