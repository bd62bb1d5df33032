"""[0.1] to [0.3] over the whole program: long histories, held against a plain dict."""

import copy
import random
import unittest

from tests.plain import NotedDisk, Plain, check_answers
from tierstore.desk import Desk, answered
from tierstore.disks import Disk
from tierstore.errors import Stopped
from tierstore.hands import Hand
from tierstore.parts import InHand, InRun
from tierstore.rising import risen
from tierstore.runfiles import read_run
from tierstore.runs import run_of
from tierstore.sieves import may_have
from tierstore.stores import Store, on
from tierstore.tiers import name_of, read_tiers


def some_deeds(chance, keys, number):
    return [("put", chance.choice(keys), "v" + str(number)) if chance.random() < 0.65 else ("drop", chance.choice(keys))
            for each in range(chance.choice([1, 1, 1, 2, 5, 20]))]


class LongHistories(unittest.TestCase):
    def check_new_runs(self, noted, ahead, held):
        """Of each run that was written: nothing that nobody can see, and, where it lies lowest, no sign of what is gone
        under which nothing older lies."""
        tiers = ahead
        for place, step in enumerate(noted):
            if step[0] == "write" and step[1] == "tiers":
                tiers = read_tiers(step[2])
            if step[0] == "write" and step[1].startswith("run"):
                entries = read_run(step[2])[1]
                # What is written next are the tiers in which the new run stands.
                rows = read_tiers(noted[place + 1][2])[2]
                tier = [name_of(tiers[0]) in map(name_of, row) for row in rows].index(True)
                lowest = tiers[2] == ((), (), ()) if tier == 0 else not any(rows[tier + 1:])
                self.check_entries(entries, held, lowest)

    def check_entries(self, entries, held, lowest):
        seen = set()
        for at in held + [10 ** 9]:
            found = {}
            for entry in entries:
                if entry[1] <= at:
                    found.setdefault(entry[0], entry)
            seen.update(found.values())
        self.assertEqual(sorted(seen, key=lambda entry: (entry[0], -entry[1])), list(entries))
        if lowest:
            last = {entry[0]: entry for entry in entries}
            self.assertEqual([entry for entry in last.values() if entry[2] is None], [])

    def check_sieves(self, disk):
        for name in disk.names():
            if name.startswith("run"):
                sieve, entries = read_run(disk.text(name))
                self.assertEqual([entry for entry in entries if not may_have(sieve, entry[0])], [])

    def check_history(self, chance, width, fan, keys, many):
        disk, plain, held = NotedDisk(), Plain(), []
        store = Store(disk, width, fan)
        for number in range(many):
            deeds = some_deeds(chance, keys, number)
            behind, ahead = len(disk.noted), store.tiers()
            self.assertEqual(store.both(deeds), plain.tell(deeds))
            self.check_new_runs(disk.noted[behind:], ahead, held)
            if chance.random() < 0.05 and len(held) < 12:
                held.append(store.snapshot())
            if held and chance.random() < 0.04:
                store.release(held.pop(chance.randrange(len(held))))
            if chance.random() < 0.02:
                before = [store.walk("", None, at) for at in [None] + held]
                behind, ahead = len(disk.noted), store.tiers()
                store.pour()
                self.check_new_runs(disk.noted[behind:], ahead, held)
                self.assertEqual([store.walk("", None, at) for at in [None] + held], before)
            if number % 40 == 0:
                check_answers(self, store, plain, chance.sample(keys, 5), [None] + held)
                self.check_sieves(disk)
        check_answers(self, store, plain, keys[::7], [None] + held)
        return store, disk, plain

    def test_hundreds_of_entries(self):
        chance = random.Random(3)
        most = 0
        for width, fan, many_keys, many in [(8, 3, 300, 300), (50, 2, 500, 300), (200, 8, 400, 250), (1, 2, 60, 250),
                                            (20, 2, 900, 400), (8, 3, 12, 400)]:
            keys = ["k" + str(number) for number in range(many_keys)]
            store, disk, plain = self.check_history(chance, width, fan, keys, many)
            most = max(most, store.many())
            again = risen(Disk(disk.files()), width, fan)
            self.assertEqual((again.walk(), again.tiers(), again.many()), (plain.pairs(), store.tiers(), store.many()))
        self.assertGreater(most, 600)

    def test_short_histories_of_many_shapes(self):
        chance = random.Random(4)
        for case in range(80):
            keys = ["k" + str(number) for number in range(chance.choice([5, 9, 30]))]
            self.check_history(chance, chance.choice([1, 2, 3, 8]), chance.choice([2, 3, 8]), keys, 60)

    def test_with_stops(self):
        chance = random.Random(5)
        keys = ["k" + str(number) for number in range(200)]
        for case in range(12):
            width, fan = chance.choice([3, 8, 30]), chance.choice([2, 3])
            files, plain = {}, Plain()
            for time in range(10):
                disk = Disk(files)
                store = risen(disk, width, fan)
                self.assertEqual(store.walk(), plain.pairs())
                disk.stop_in(chance.randint(0, 60), chance.choice([0, 10, 40, 999]))
                while True:
                    deeds = some_deeds(chance, keys, len(plain.told))
                    try:
                        self.assertEqual(store.both(deeds), len(plain.told) + 1)
                    except Stopped:
                        files = disk.files()
                        break
                    plain.tell(deeds)
                # The last one was told amid the stop: all of it is done, or nothing.
                if risen(Disk(files), width, fan).snapshot() > len(plain.told):
                    plain.tell(deeds)
            self.assertEqual(risen(Disk(files), width, fan).walk(), plain.pairs())


class HandedInAndTold(unittest.TestCase):
    def test_nothing_handed_in_is_changed(self):
        deeds = [("put", "a", "x"), ("drop", "b"), ("put", "a", "y")]
        files = {"journal": "", "stranger": "x"}
        runs = {1: run_of([("a", 1, "x")])}
        tiers = (2, 1, ((1,), (), ()))
        kept = copy.deepcopy((deeds, files, runs, tiers))
        store = risen(Disk(files), 1, 2)
        for time in range(9):
            store.both(deeds)
        store = on(Disk({"run0000001": ""}), tiers, runs, Hand(), 1, 1, 2)
        for time in range(9):
            store.both(deeds)
        self.assertEqual((deeds, files, runs, tiers), kept)

    def test_nothing_told_changes_later(self):
        disk = Disk()
        store = Store(disk, 2, 2)
        told, kept = [], []
        for number in range(40):
            store.put("k" + str(number % 7), str(number))
            store.snapshot()
            told.append((store.walk(), store.held(), store.road("k1"), store.tiers(), store.many(), disk.files()))
            kept.append(copy.deepcopy(told[-1]))
            if number % 3 == 0:
                store.release(number + 1)
        self.assertEqual(told, kept)

    def test_what_is_told_may_be_changed(self):
        store = Store(Disk(), 2, 2)
        for key in "abc":
            store.put(key, key)
            store.snapshot()
        for told in [store.walk(), store.held(), store.road("a")]:
            told.clear()
        self.assertEqual((store.walk(), store.held()), ([(key, key) for key in "abc"], [1, 2, 3]))
        self.assertEqual([word for name, word in store.road("a")], ["sieve", "there"])

    def test_parts_tell_the_askers_own(self):
        hand = Hand()
        hand.put("a", 1, "x")
        for part in [InHand(hand), InRun(1, run_of([("a", 1, "x")]))]:
            part.between("", None).append("more")
            self.assertEqual(part.between("", None), [("a", 1, "x")])

    def test_a_store_asked_again_answers_the_same(self):
        store = Store(Disk(), 2, 2)
        for number in range(9):
            store.put("k" + str(number), "v")
        self.assertEqual([(store.walk(), store.ask("k3"), store.road("k3")) for time in range(3)],
                         [(store.walk(), store.ask("k3"), store.road("k3"))] * 3)


class TheSameEachTime(unittest.TestCase):
    """Neither a clock nor chance: the same rows, the same answers and the same files."""

    def test_two_desks_to_which_the_same_is_said(self):
        rows = []
        for number in range(120):
            rows.append(f'put "k{number * 7 % 23}" "{number}"' if number % 4 else f'drop "k{number % 23}"')
            rows += ["snapshot"] if number % 30 == 3 else []
            rows += ["stop 5 torn 9", "pour", "rise"] if number % 50 == 49 else []
        rows += ["walk", "held", "files"]
        desks = [Desk(3, 2), Desk(3, 2)]
        told = [[desk.say(row) for row in rows] for desk in desks]
        self.assertEqual(told[0], told[1])
        self.assertEqual(desks[0].its_disk().files(), desks[1].its_disk().files())
        self.assertEqual(answered("\n".join(rows), 3, 2), sum(told[0], []))


if __name__ == "__main__":
    unittest.main()
