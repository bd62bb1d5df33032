"""[7.3], [7.4]: a stop behind each step, and coming up from what lies then."""

import random
import unittest

from tests.plain import NotedDisk, Plain, check_answers
from tierstore.disks import Disk
from tierstore.errors import Stopped
from tierstore.journals import record
from tierstore.rising import risen
from tierstore.stores import Store

KEYS = ["a", "b", "c", "dd", " ", "never"]
HISTORIES = [
    # The hand alone, tellings of each kind.
    (8, 3, [("put", "a", "1"), ("drop", "a"), ("both", [("put", "a", "2"), ("put", "b", "3"), ("drop", "a")])]),
    # Each telling pours, tier 0 and tier 1 and tier 2 come to have runs.
    (1, 2, [("put", "a", "1"), ("put", "b", "2"), ("snapshot",), ("drop", "a"), ("put", "c", "4"), ("put", "a", "5"),
            ("snapshot",), ("put", "dd", ""), ("drop", "b"), ("put", " ", "8"), ("put", "b", "9"), ("release", 2),
            ("drop", "c"), ("put", "a", "11"), ("put", "dd", "12")]),
    # Pourings that leave nothing, and pourings told.
    (2, 2, [("put", "a", "1"), ("drop", "a"), ("put", "a", "2"), ("pour",), ("drop", "a"), ("pour",), ("pour",),
            ("both", [("put", "b", "5"), ("put", "c", "6"), ("drop", "b")]), ("snapshot",), ("drop", "c"), ("pour",)]),
    # Batches that come over the width.
    (3, 3, [("both", [("put", key, "old") for key in KEYS[:5]]), ("both", [("drop", key) for key in KEYS[1:4]]),
            ("snapshot",), ("put", "a", "x"), ("both", [("put", key, "new") for key in KEYS[:5]]), ("put", "b", "y"),
            ("both", [("put", "dd", "z" * 40), ("drop", "dd"), ("put", "dd", "")])]),
]


def deeds_of(call):
    """The deeds of a call of a store, None of one that is no telling of deeds."""
    if call[0] == "both":
        return call[1]
    return [call] if call[0] in ("put", "drop") else None


def last_of(store):
    at = store.snapshot()
    store.release(at)
    return at


def steps_of(calls, width, fan):
    """All steps of calls that come to no stop."""
    disk = NotedDisk()
    store = Store(disk, width, fan)
    for call in calls:
        getattr(store, call[0])(*call[1:])
    return disk.noted


class Checks(unittest.TestCase):
    def stopped_amid(self, disk, store, calls, plain, torn):
        """Calls until the stop, and plain has what is to come up: the files that lie then, None if none came."""
        for call in calls:
            ahead = disk.steps()
            deeds = deeds_of(call)
            try:
                getattr(store, call[0])(*call[1:])
            except Stopped as e:
                self.assertEqual(e.step, disk.steps())
                if deeds and (disk.steps() > ahead or torn >= len(record(len(plain.told) + 1, deeds))):
                    plain.tell(deeds)
                return disk.files()
            if deeds:
                plain.tell(deeds)
        return None

    def check_risen(self, files, plain, width, fan):
        """Coming up, stopped behind each number of its steps, and again: the same each time."""
        whole = Disk(files)
        store = risen(whole, width, fan)
        wanted = (store.tiers(), store.many(), len(plain.told))
        for many in range(whole.steps() + 1):
            disk = Disk(files, many, 99)
            if many < whole.steps():
                with self.assertRaises(Stopped) as caught:
                    risen(disk, width, fan)
                self.assertEqual((caught.exception.step, disk.steps()), (many, many))
                disk = Disk(disk.files())
                store = risen(disk, width, fan)
                self.assertEqual(disk.steps(), whole.steps() - many)
            else:
                store = risen(disk, width, fan)
            self.assertEqual((store.tiers(), store.many(), last_of(store), store.held()), wanted + ([],))
            self.assertEqual(disk.files(), whole.files())
            check_answers(self, store, plain, KEYS, [None])
            self.check_second(disk, store, width, fan)
        return Disk(whole.files())

    def check_second(self, disk, store, width, fan):
        """A second coming up takes no step at all, and has the same."""
        again = Disk(disk.files(), 0)
        second = risen(again, width, fan)
        self.assertEqual((again.steps(), again.has_stopped(), again.files()), (0, False, disk.files()))
        self.assertEqual((second.tiers(), second.many(), last_of(second), second.walk()),
                         (store.tiers(), store.many(), last_of(store), store.walk()))
        self.assertEqual([second.road(key) for key in KEYS], [store.road(key) for key in KEYS])

    def check_goes_on(self, disk, plain, width, fan):
        store, plain = risen(disk, width, fan), Plain(plain.told)
        held = []
        for deeds in [[("put", "a", "on")], [("drop", "b"), ("put", "c", "on")], [("put", "never", "")],
                      [("drop", "a")], [("put", "dd", "on")]]:
            held.append(store.snapshot())
            self.assertEqual(store.both(deeds), plain.tell(deeds))
            check_answers(self, store, plain, KEYS, [None] + held)
        self.assertEqual(risen(Disk(disk.files()), width, fan).walk(), plain.pairs())


class EachStop(Checks):
    def check_stop(self, history, stop, torn):
        width, fan, calls = history
        disk, plain = Disk(None, stop, torn), Plain()
        files = self.stopped_amid(disk, Store(disk, width, fan), calls, plain, torn)
        self.assertIsNotNone(files)
        self.check_goes_on(self.check_risen(files, plain, width, fan), plain, width, fan)

    def test_a_stop_behind_each_number_of_steps_and_of_signs(self):
        for number, history in enumerate(HISTORIES):
            width, fan, calls = history
            for stop, step in enumerate(steps_of(calls, width, fan)):
                most = len(step[2]) + 1 if step[0] == "lengthen" else 1
                for torn in range(most + 1):
                    with self.subTest(history=number, stop=stop, torn=torn):
                        self.check_stop(history, stop, torn)

    def test_the_histories_come_to_all_kinds_of_steps(self):
        steps = [step for width, fan, calls in HISTORIES for step in steps_of(calls, width, fan)]
        self.assertEqual({step[0] for step in steps}, {"lengthen", "write", "take off"})
        tiers = [step[2].split("\n")[2:5] for step in steps if step[:2] == ("write", "tiers")]
        self.assertEqual([{row[tier] == "tier" for row in tiers} for tier in range(3)], [{True, False}] * 3)

    def test_an_orphan_and_a_torn_journal_come_up(self):
        """A stop amid a pouring of the tiers leaves files of nobody, which are taken off by coming up."""
        width, fan, calls = HISTORIES[1]
        many = []
        for stop in range(len(steps_of(calls, width, fan))):
            disk = Disk(None, stop, 5)
            self.stopped_amid(disk, Store(disk, width, fan), calls, Plain(), 5)
            after = NotedDisk(disk.files())
            risen(after, width, fan)
            many.append((len(after.noted), {step[0] for step in after.noted}))
        self.assertGreater(max(number for number, words in many), 2)
        self.assertIn((1, {"write"}), many)
        self.assertIn((1, {"take off"}), many)
        self.assertIn((0, set()), many)


class OneRecord(unittest.TestCase):
    def test_all_deeds_of_a_telling_or_none(self):
        deeds = [("put", "a", "new"), ("drop", "b"), ("put", "c", "new")]
        whole = len(record(3, deeds))
        for torn in [0, 1, 18, 19, 20, whole - 1, whole, whole + 9]:
            disk = Disk(None, 2, torn)
            store = Store(disk)
            store.put("a", "old")
            store.put("b", "old")
            with self.assertRaises(Stopped):
                store.both(deeds)
            store = risen(Disk(disk.files()))
            if torn >= whole:
                self.assertEqual((store.walk(), last_of(store)), ([("a", "new"), ("c", "new")], 3))
            else:
                self.assertEqual((store.walk(), last_of(store)), ([("a", "old"), ("b", "old")], 2))

    def test_a_journal_that_was_not_emptied_is_not_done_twice(self):
        disk = Disk(None, 4)
        store = Store(disk, 2, 3)
        store.put("a", "1")
        with self.assertRaises(Stopped):
            store.put("a", "2")
        self.assertEqual(disk.names(), ["journal", "run0000001", "tiers"])
        self.assertNotEqual(disk.text("journal"), "")
        after = Disk(disk.files())
        store = risen(after, 2, 3)
        self.assertEqual((store.many(), store.walk(), last_of(store), after.steps()), (1, [("a", "2")], 2, 0))
        self.assertEqual((store.drop("a"), store.ask("a")), (3, None))
        self.assertEqual(risen(Disk(after.files()), 2, 3).walk(), [])


class StopsAsTheyCome(Checks):
    def some_calls(self, chance):
        calls = []
        for number in range(chance.randint(3, 25)):
            deeds = [("put", chance.choice(KEYS[:5]), str(number)) if chance.random() < 0.55
                     else ("drop", chance.choice(KEYS[:5])) for each in range(chance.choice([1, 1, 2, 5]))]
            calls.append(chance.choice([("both", deeds), ("both", deeds), deeds[0], ("pour",), ("snapshot",)]))
        return calls

    def test_several_stops_one_behind_the_other(self):
        chance = random.Random(74)
        stops = 0
        for case in range(250):
            width, fan = chance.choice([1, 2, 3, 8]), chance.choice([2, 3])
            disk, plain = Disk(), Plain()
            for time in range(6):
                torn = chance.choice([0, 1, 19, 25, 99])
                disk = Disk(disk.files(), chance.randint(0, 12), torn)
                try:
                    store = risen(disk, width, fan)
                except Stopped:
                    stops += 1
                    continue
                check_answers(self, store, plain, KEYS, [None])
                stopped = self.stopped_amid(disk, store, self.some_calls(chance), plain, torn) is not None
                stops += stopped
                if not stopped:
                    check_answers(self, store, plain, KEYS, [None])
            self.check_goes_on(self.check_risen(disk.files(), plain, width, fan), plain, width, fan)
        self.assertGreater(stops, 500)


if __name__ == "__main__":
    unittest.main()
