"""[6.4], [6.5]: how a store pours its hand and its tiers, what it writes and takes off, and in which order."""

import random
import unittest

from tests.plain import Model, NotedDisk, Plain, check_answers
from tierstore.disks import Disk
from tierstore.errors import Stopped
from tierstore.hands import Hand
from tierstore.journals import record
from tierstore.runfiles import read_run, run_text
from tierstore.runs import run_of
from tierstore.stores import Store, on
from tierstore.tiers import name_of


def told_to(store, calls):
    return [getattr(store, call[0])(*call[1:]) for call in calls]


def noted_by(calls, width, fan):
    """The store and its disk, and the steps that the last of some calls brought."""
    disk = NotedDisk()
    store = Store(disk, width, fan)
    told_to(store, calls[:-1])
    many = len(disk.noted)
    told_to(store, calls[-1:])
    return store, disk, disk.noted[many:]


def entries_in(disk, number):
    return list(read_run(disk.text(name_of(number)))[1])


def puts(many, first=0):
    return [("put", "k" + str(number).zfill(4), "v") for number in range(first, first + many)]


def store_on(layers, runs, last, width, fan, hand=None):
    """A store on a disk on which its runs lie."""
    runs = {number: run_of(entries) for number, entries in runs.items()}
    disk = NotedDisk({name_of(number): run_text(run) for number, run in runs.items()})
    return on(disk, (max(list(runs) + [0]) + 1, last, layers), runs, hand or Hand(), last, width, fan), disk


class TheHand(unittest.TestCase):
    def test_the_steps_in_their_order(self):
        store, disk, noted = noted_by([("put", "b", "y"), ("put", "a", "x")], 2, 3)
        self.assertEqual(noted, [
            ("lengthen", "journal", "000000002 01 00006\np01ax\n"),
            ("write", "run0000001", "run 2\n16:ddma\n2 + 01ax\n1 + 01by\nend 5551\n"),
            ("write", "tiers", "fresh 2\npoured 2\ntier 1\ntier\ntier\n"),
            ("write", "journal", ""),
        ])
        self.assertEqual((disk.names(), disk.text("journal")), (["journal", "run0000001", "tiers"], ""))
        self.assertEqual((store.tiers(), store.many()), ((2, 2, ((1,), (), ())), 2))
        self.assertEqual(store.road("a"), [("hand", "sieve"), ("run0000001", "there")])

    def test_the_newest_run_stands_ahead_in_the_tiers(self):
        store, disk, noted = noted_by(puts(6), 2, 8)
        self.assertEqual(noted[2], ("write", "tiers", "fresh 4\npoured 6\ntier 3 2 1\ntier\ntier\n"))
        self.assertEqual(store.tiers(), (4, 6, ((3, 2, 1), (), ())))

    def test_at_width_and_not_one_entry_sooner(self):
        for width in [1, 2, 3, 8, 200]:
            store, disk, noted = noted_by(puts(width - 1) + [("drop", "k0000")], width, 2)
            self.assertEqual([step[1] for step in noted][-2:], ["tiers", "journal"])
            if width > 1:
                store, disk, noted = noted_by(puts(width - 1), width, 2)
                self.assertEqual((len(noted), disk.names(), store.many()), (1, ["journal"], width - 1))

    def test_entries_are_counted_and_not_keys(self):
        store, disk, noted = noted_by([("put", "a", "1"), ("put", "a", "2"), ("put", "a", "3")], 3, 3)
        self.assertEqual((len(noted), entries_in(disk, 1)), (4, [("a", 3, "3")]))

    def test_entries_are_counted_and_not_deeds(self):
        deeds = [("put", "a", "1"), ("drop", "a"), ("put", "a", "2"), ("put", "b", "3")]
        store, disk, noted = noted_by([("both", deeds)], 3, 3)
        self.assertEqual((len(noted), store.many(), disk.names()), (1, 2, ["journal"]))

    def test_a_batch_that_comes_over_it(self):
        deeds = [("put", "k" + str(number), "v") for number in range(20)]
        for width in [1, 3, 19, 20]:
            store, disk, noted = noted_by([("both", deeds)], width, 3)
            self.assertEqual([step[:2] for step in noted], [("lengthen", "journal"), ("write", "run0000001"),
                                                            ("write", "tiers"), ("write", "journal")])
            self.assertEqual((len(entries_in(disk, 1)), store.tiers()), (20, (2, 1, ((1,), (), ()))))
        store, disk, noted = noted_by([("put", "a", "x"), ("both", deeds)], 21, 3)
        self.assertEqual((len(noted), store.many()), (4, 21))

    def test_snapshots_held_among_its_stamps(self):
        calls = [("put", "a", "1"), ("snapshot",), ("put", "a", "2"), ("put", "a", "3"), ("snapshot",), ("snapshot",),
                 ("drop", "a"), ("put", "b", "5"), ("drop", "b")]
        store, disk, noted = noted_by(calls, 6, 3)
        self.assertEqual(entries_in(disk, 1), [("a", 4, None), ("a", 3, "3"), ("a", 1, "1")])
        self.assertEqual((store.ask("a", 1), store.ask("a", 3), store.ask("a")), ("1", "3", None))

    def test_a_snapshot_that_was_let_go_is_not_heeded(self):
        calls = [("put", "a", "1"), ("snapshot",), ("put", "a", "2"), ("release", 1), ("put", "a", "3")]
        store, disk, noted = noted_by(calls, 3, 3)
        self.assertEqual(entries_in(disk, 1), [("a", 3, "3")])

    def test_a_snapshot_held_twice_and_let_go_once_is_heeded(self):
        calls = [("put", "a", "1"), ("snapshot",), ("snapshot",), ("put", "a", "2"), ("release", 1), ("put", "a", "3")]
        store, disk, noted = noted_by(calls, 3, 3)
        self.assertEqual(entries_in(disk, 1), [("a", 3, "3"), ("a", 1, "1")])

    def test_where_a_tier_has_a_run_what_is_gone_stays(self):
        store, disk, noted = noted_by([("put", "a", "x"), ("put", "b", "y"), ("drop", "a"), ("drop", "c")], 2, 3)
        self.assertEqual(entries_in(disk, 2), [("a", 3, None), ("c", 4, None)])

    def test_lowest_just_where_no_tier_has_a_run(self):
        for place in range(3):
            layers = tuple((1,) if tier == place else () for tier in range(3))
            store, disk = store_on(layers, {1: [("z", 1, "z")]}, 1, 1, 8)
            store.drop("a")
            self.assertEqual((entries_in(disk, 2), store.tiers()[2][0][0]), ([("a", 2, None)], 2))

    def test_where_no_tier_has_a_run_and_nothing_is_left(self):
        store, disk, noted = noted_by([("put", "a", "x"), ("drop", "a")], 2, 3)
        self.assertEqual(noted[1:], [("write", "tiers", "fresh 1\npoured 2\ntier\ntier\ntier\n"),
                                     ("write", "journal", "")])
        self.assertEqual(disk.files(), {"journal": "", "tiers": "fresh 1\npoured 2\ntier\ntier\ntier\n"})
        self.assertEqual((store.tiers(), store.many(), store.put("a", "y")), ((1, 2, ((), (), ())), 0, 3))

    def test_what_is_gone_goes_but_what_a_snapshot_sees_stays(self):
        calls = [("put", "a", "x"), ("snapshot",), ("drop", "a"), ("drop", "b")]
        store, disk, noted = noted_by(calls, 3, 3)
        self.assertEqual(entries_in(disk, 1), [("a", 2, None), ("a", 1, "x")])

    def test_poured_is_the_stamp_given_last(self):
        store, disk, noted = noted_by(puts(9), 2, 8)
        self.assertEqual(store.tiers()[1], 8)
        store.pour()
        self.assertEqual((store.tiers()[1], disk.text("tiers").split("\n")[1]), (9, "poured 9"))

    def test_the_journal_goes_on_from_nothing(self):
        store, disk, noted = noted_by(puts(3), 2, 8)
        self.assertEqual(disk.text("journal"), record(3, [("put", "k0002", "v")]))


class Pour(unittest.TestCase):
    def test_of_an_empty_hand_it_does_nothing_at_all(self):
        disk = Disk()
        self.assertIsNone(Store(disk).pour())
        self.assertEqual((disk.steps(), disk.files()), (0, {}))
        store, disk, noted = noted_by(puts(2) + [("pour",)], 2, 2)
        self.assertEqual((noted, store.tiers()), ([], (2, 2, ((1,), (), ()))))

    def test_of_an_empty_hand_the_tiers_are_not_poured_either(self):
        runs = {number: [("k" + str(number), number, "v")] for number in range(1, 4)}
        store, disk = store_on(((3, 2, 1), (), ()), runs, 3, 1, 2)
        store.pour()
        self.assertEqual((disk.steps(), store.tiers()), (0, (4, 3, ((3, 2, 1), (), ()))))

    def test_of_one_entry_it_pours(self):
        for width in [2, 8, 200]:
            store, disk, noted = noted_by([("put", "a", "x"), ("pour",)], width, 3)
            self.assertEqual([step[:2] for step in noted], [("write", "run0000001"), ("write", "tiers"),
                                                            ("write", "journal")])
            self.assertEqual((entries_in(disk, 1), store.tiers()), ([("a", 1, "x")], (2, 1, ((1,), (), ()))))

    def test_it_answers_none(self):
        store = Store(Disk())
        store.put("a", "x")
        self.assertIsNone(store.pour())

    def test_it_pours_the_tiers_too(self):
        store, disk, noted = noted_by([("put", "a", "x"), ("pour",), ("put", "b", "y"), ("pour",)], 8, 2)
        self.assertEqual([step[:2] for step in noted], [
            ("write", "run0000002"), ("write", "tiers"), ("write", "journal"),
            ("write", "run0000003"), ("write", "tiers"), ("take off", "run0000001"), ("take off", "run0000002")])
        self.assertEqual(store.tiers(), (4, 2, ((), (3,), ())))

    def test_a_hand_of_what_is_gone_alone(self):
        store, disk, noted = noted_by([("drop", "a"), ("pour",)], 8, 2)
        self.assertEqual([step[:2] for step in noted], [("write", "tiers"), ("write", "journal")])
        self.assertEqual(store.tiers(), (1, 1, ((), (), ())))


class TierNought(unittest.TestCase):
    def test_fan_runs_without_a_run_in_tier_1(self):
        store, disk, noted = noted_by([("put", "c", "1"), ("put", "a", "2"), ("put", "b", "3")], 1, 3)
        self.assertEqual(noted[1:], [
            ("write", "run0000003", run_text(run_of([("b", 3, "3")]))),
            ("write", "tiers", "fresh 4\npoured 3\ntier 3 2 1\ntier\ntier\n"),
            ("write", "journal", ""),
            ("write", "run0000004", run_text(run_of([("c", 1, "1"), ("a", 2, "2"), ("b", 3, "3")]))),
            ("write", "tiers", "fresh 5\npoured 3\ntier\ntier 4\ntier\n"),
            ("take off", "run0000001"), ("take off", "run0000002"), ("take off", "run0000003"),
        ])
        self.assertEqual(disk.names(), ["journal", "run0000004", "tiers"])
        self.assertEqual((store.tiers(), store.many()), ((5, 3, ((), (4,), ())), 3))

    def test_fan_runs_with_a_run_in_tier_1(self):
        store, disk, noted = noted_by(puts(6), 1, 3)
        self.assertEqual([step[:2] for step in noted[4:]], [
            ("write", "run0000008"), ("write", "tiers"), ("take off", "run0000004"), ("take off", "run0000005"),
            ("take off", "run0000006"), ("take off", "run0000007")])
        self.assertEqual((store.tiers(), len(entries_in(disk, 8))), ((9, 6, ((), (8,), ())), 6))

    def test_one_fewer_than_fan(self):
        for fan in [2, 3, 8]:
            store, disk, noted = noted_by(puts(fan - 1), 1, fan)
            self.assertEqual((len(noted), len(store.tiers()[2][0])), (4, fan - 1))

    def test_more_than_fan(self):
        runs = {number: [("k" + str(number), number, "v")] for number in range(1, 6)}
        store, disk = store_on(((5, 4, 3, 2, 1), (), ()), runs, 5, 2, 2)
        store.put("a", "x")
        store.pour()
        self.assertEqual((store.tiers(), store.many()), ((8, 6, ((), (7,), ())), 6))
        self.assertEqual(disk.noted[-6:], [("take off", name_of(number)) for number in range(1, 7)])

    def test_the_files_are_taken_off_by_their_numbers_whatever_tier_they_stood_in(self):
        runs = {number: [("k" + str(number), number, "v")] for number in [3, 7, 9]}
        store, disk = store_on(((3, 9), (7,), ()), runs, 9, 1, 2)
        store.put("a", "x")
        self.assertEqual(disk.noted[-4:], [("take off", name_of(number)) for number in [3, 7, 9, 10]])

    def test_lowest_where_tier_2_has_none(self):
        runs = {1: [("a", 1, "x"), ("b", 2, "y")], 2: [("a", 3, None), ("c", 4, None)]}
        store, disk = store_on(((2,), (1,), ()), runs, 4, 1, 2)
        store.drop("d")
        self.assertEqual((store.tiers(), entries_in(disk, 4)), ((5, 5, ((), (4,), ())), [("b", 2, "y")]))

    def test_not_lowest_where_tier_2_has_one(self):
        runs = {1: [("a", 1, "x"), ("b", 2, "y")], 2: [("a", 3, None), ("c", 4, None)], 3: [("z", 5, "z")]}
        store, disk = store_on(((2,), (1,), (3,)), runs, 5, 1, 2)
        store.drop("d")
        left = [("a", 3, None), ("b", 2, "y"), ("c", 4, None), ("d", 6, None)]
        self.assertEqual((store.tiers(), entries_in(disk, 5)), ((6, 6, ((), (5,), (3,))), left))

    def test_nothing_is_left(self):
        store, disk, noted = noted_by([("put", "a", "x"), ("drop", "a")], 1, 2)
        self.assertEqual([step[:2] for step in noted[1:]], [
            ("write", "run0000002"), ("write", "tiers"), ("write", "journal"), ("write", "tiers"),
            ("take off", "run0000001"), ("take off", "run0000002")])
        self.assertEqual(noted[-3], ("write", "tiers", "fresh 3\npoured 2\ntier\ntier\ntier\n"))
        self.assertEqual((store.tiers(), store.many(), disk.names()), ((3, 2, ((), (), ())), 0, ["journal", "tiers"]))

    def test_nothing_is_left_though_tier_1_had_a_run(self):
        store, disk = store_on(((2,), (1,), ()), {1: [("a", 1, "x")], 2: [("b", 2, None)]}, 2, 1, 2)
        store.drop("a")
        self.assertEqual((store.tiers(), disk.names()), ((4, 3, ((), (), ())), ["journal", "tiers"]))

    def test_snapshots_are_heeded(self):
        calls = [("put", "a", "1"), ("snapshot",), ("put", "a", "2"), ("put", "a", "3")]
        store, disk, noted = noted_by(calls, 1, 3)
        self.assertEqual(entries_in(disk, 4), [("a", 3, "3"), ("a", 1, "1")])


class TierOne(unittest.TestCase):
    def store_with(self, many, width, fan, below=()):
        """Tier 1 with so many entries, and perhaps a run in tier 2."""
        runs = {1: [("k" + str(number).zfill(4), 5, "v") for number in range(many)]}
        if below:
            runs[2] = list(below)
        return store_on(((), (1,), (2,) if below else ()), runs, 9, width, fan)

    def test_just_width_times_fan_times_fan_entries(self):
        for width, fan in [(1, 2), (1, 3), (2, 2), (8, 3), (3, 8)]:
            store, disk = self.store_with(width * fan * fan, width, fan)
            store.put("z", "v")
            store.pour()
            self.assertEqual(store.tiers(), (3, 10, ((2,), (1,), ())))

    def test_one_more(self):
        for width, fan in [(1, 2), (1, 3), (2, 2), (8, 3), (3, 8)]:
            store, disk = self.store_with(width * fan * fan + 1, width, fan)
            store.put("z", "v")
            store.pour()
            # Tier 0 had fewer than fan runs, and yet tier 1's run is poured on.
            self.assertEqual(store.tiers(), (4, 10, ((2,), (), (3,))))
            self.assertEqual(disk.noted[-3:], [
                ("write", "run0000003", run_text(run_of([("k" + str(number).zfill(4), 5, "v")
                                                         for number in range(width * fan * fan + 1)]))),
                ("write", "tiers", "fresh 4\npoured 10\ntier 2\ntier\ntier 3\n"), ("take off", "run0000001")])

    def test_with_a_run_in_tier_2(self):
        below = [("a", 1, "old"), ("k0001", 2, "old")]
        store, disk = self.store_with(5, 1, 2, below)
        store.put("z", "v")
        self.assertEqual(store.tiers(), (5, 10, ((3,), (), (4,))))
        newer = [("k000" + str(number), 5, "v") for number in range(5)]
        self.assertEqual(entries_in(disk, 4), [("a", 1, "old")] + newer)
        self.assertEqual(disk.noted[-2:], [("take off", "run0000001"), ("take off", "run0000002")])

    def test_taken_off_by_their_numbers(self):
        runs = {4: [("a", 1, "x")], 2: [("k" + str(number), 5, "v") for number in range(5)]}
        store, disk = store_on(((), (2,), (4,)), runs, 9, 1, 2)
        store.put("z", "v")
        self.assertEqual(disk.noted[-2:], [("take off", "run0000002"), ("take off", "run0000004")])
        runs = {2: [("a", 1, "x")], 4: [("k" + str(number), 5, "v") for number in range(5)]}
        store, disk = store_on(((), (4,), (2,)), runs, 9, 1, 2)
        store.put("z", "v")
        self.assertEqual(disk.noted[-2:], [("take off", "run0000002"), ("take off", "run0000004")])

    def test_behind_a_pouring_of_tier_0(self):
        runs = {1: [("k" + str(number), 5, "v") for number in range(4)], 2: [("l", 6, "v")]}
        store, disk = store_on(((2,), (1,), ()), runs, 9, 1, 2)
        store.put("z", "v")
        self.assertEqual([step[:2] for step in disk.noted[1:]], [
            ("write", "run0000003"), ("write", "tiers"), ("write", "journal"),
            ("write", "run0000004"), ("write", "tiers"),
            ("take off", "run0000001"), ("take off", "run0000002"), ("take off", "run0000003"),
            ("write", "run0000005"), ("write", "tiers"), ("take off", "run0000004")])
        self.assertEqual((store.tiers(), store.many()), ((6, 10, ((), (), (5,))), 6))

    def test_what_is_gone_goes(self):
        runs = {1: [("k" + str(number), 5, None) for number in range(5)], 2: [("a", 1, "x"), ("k3", 2, "old")]}
        store, disk = store_on(((), (1,), (2,)), runs, 9, 1, 2)
        store.put("z", "v")
        self.assertEqual(entries_in(disk, 4), [("a", 1, "x")])

    def test_nothing_is_left(self):
        runs = {1: [("k" + str(number), 5, None) for number in range(5)], 2: [("k3", 2, "old")]}
        store, disk = store_on(((), (1,), (2,)), runs, 9, 1, 2)
        store.put("z", "v")
        self.assertEqual(store.tiers(), (4, 10, ((3,), (), ())))
        self.assertEqual(disk.noted[-3:], [("write", "tiers", "fresh 4\npoured 10\ntier 3\ntier\ntier\n"),
                                           ("take off", "run0000001"), ("take off", "run0000002")])

    def test_entries_are_counted_and_not_keys(self):
        store, disk = store_on(((), (1,), ()), {1: [("a", number, "v") for number in range(1, 6)]}, 9, 1, 2)
        store.put("z", "v")
        self.assertEqual((store.tiers(), entries_in(disk, 3)), ((4, 10, ((2,), (), (3,))), [("a", 5, "v")]))


class AllTogether(unittest.TestCase):
    KEYS = ["a", "b", "c", "dd", "ee", "f" * 20, " ", "~"]

    def history(self, chance, store, model, plain, disk):
        """Deeds as they come, and behind each of them all that can be seen is held against the model."""
        for number in range(chance.choice([20, 60])):
            word = chance.choice(["tell"] * 6 + ["snapshot", "release", "pour"])
            if word == "tell":
                deeds = [("put", chance.choice(self.KEYS), "v" + str(number)) if chance.random() < 0.5
                         else ("drop", chance.choice(self.KEYS)) for each in range(chance.choice([1, 1, 1, 2, 3, 20]))]
                self.assertEqual((store.both(deeds), plain.tell(deeds)), (model.tell(deeds), model.last))
            if word == "snapshot" and len(model.held) < 6:
                self.assertEqual(store.snapshot(), model.last)
                model.held = model.held + [model.last]
            if word == "release" and model.held:
                store.release(model.held.pop(chance.randrange(len(model.held))))
            if word == "pour":
                store.pour()
                model.pour()
            self.assertEqual(disk.noted, model.steps)
            self.assertEqual((store.tiers(), store.many(), store.held()), (model.tiers(), model.many(), model.held))
        check_answers(self, store, plain, self.KEYS, [None] + model.held)

    def test_histories_step_by_step(self):
        chance = random.Random(645)
        seen = []
        for case in range(300):
            width, fan = chance.choice([1, 2, 3, 4, 8]), chance.choice([2, 3, 4])
            disk, model = NotedDisk(), Model(width, fan)
            self.history(chance, Store(disk, width, fan), model, Plain(), disk)
            seen.append(tuple(len(row) > 0 for row in model.rows))
        # All tiers come to have runs, and each of them to have none.
        self.assertEqual([sorted({row[tier] for row in seen}) for tier in range(3)], [[False, True]] * 3)

    def test_each_stop_amid_the_steps(self):
        """Whatever was done ahead of the stop lies on the disk as if there were none."""
        calls = [("put", "a", "1"), ("put", "b", "2"), ("snapshot",), ("drop", "a"), ("put", "c", "3"),
                 ("put", "b", "4"), ("both", [("drop", "c"), ("put", "d", "5")]), ("pour",), ("put", "e", "6"),
                 ("pour",), ("put", "f", "7"), ("put", "g", "8"), ("put", "h", "9"), ("drop", "b"), ("pour",)]
        whole = NotedDisk()
        told_to(Store(whole, 2, 2), calls)
        self.assertGreater(len([step for step in whole.noted if step[0] == "take off"]), 5)
        for many in range(len(whole.noted)):
            disk = NotedDisk(None, many, 3)
            with self.assertRaises(Stopped) as caught:
                told_to(Store(disk, 2, 2), calls)
            self.assertEqual((caught.exception.step, disk.noted), (many, whole.noted[:many]))


if __name__ == "__main__":
    unittest.main()
