"""[7.1], [7.2]: coming up from what lies on a disk."""

import itertools
import random
import unittest

from tests.plain import NotedDisk, Plain, check_answers
from tierstore.disks import Disk
from tierstore.errors import BadFile, Stopped
from tierstore.journals import record
from tierstore.rising import risen
from tierstore.runfiles import run_text
from tierstore.runs import run_of
from tierstore.stores import Store
from tierstore.tiers import tiers_text

TIERS = (20, 60, ((19, 7), (12,), (4,)))
RUNS = {
    "run0000019": [("a", 51, "a51"), ("b", 52, None)],
    "run0000007": [("a", 41, None), ("c", 42, "c42")],
    "run0000012": [("a", 21, "a21"), ("e", 22, "e22"), ("b", 23, "b23")],
    "run0000004": [("a", 11, "a11"), ("f", 12, "f12"), ("e", 13, "e13")],
}
JOURNAL = record(61, [("put", "g", "g61"), ("drop", "f")]) + record(62, [("drop", "c")])
TEXTS = {name: run_text(run_of(entries)) for name, entries in RUNS.items()}
FILES = dict(TEXTS, tiers=tiers_text(TIERS), journal=JOURNAL)
READ = ["tiers", "run0000004", "run0000007", "run0000012", "run0000019", "journal"]
STRANGERS = ["", " ", "JOURNAL", "a", "journal ", "journal2", "run0000003", "run0000020", "run4", "run", "tier", "zz"]


def files_of(*without, **others):
    return dict({name: text for name, text in FILES.items() if name not in without}, **others)


def last_of(store):
    """The stamp given last, without a change to the store."""
    at = store.snapshot()
    store.release(at)
    return at


def told_of(store):
    """What a store tells of itself at once."""
    return (store.many(), store.walk(), last_of(store), store.tiers(), store.held())


class FromNothing(unittest.TestCase):
    def test_it_has_nothing_and_takes_no_step(self):
        disk = Disk()
        store = risen(disk)
        self.assertIsInstance(store, Store)
        self.assertEqual(told_of(store), (0, [], 0, (1, 0, ((), (), ())), []))
        self.assertEqual((store.road("a"), disk.files(), disk.steps()), ([("hand", "sieve")], {}, 0))

    def test_it_goes_on_like_a_new_one(self):
        one, other = NotedDisk(), NotedDisk()
        for number in range(60):
            key, value = "k" + str(number % 17), str(number)
            if number == 0:
                stores = [risen(one, 2, 2), Store(other, 2, 2)]
            self.assertEqual(stores[0].put(key, value), stores[1].put(key, value))
        self.assertEqual(one.noted, other.noted)

    def test_width_and_fan_left_out(self):
        for arguments, width, fan in [((), 8, 3), ((5,), 5, 3), ((1, 2), 1, 2), ((200, 8), 200, 8)]:
            store, other = risen(Disk(), *arguments), Store(Disk(), width, fan)
            for number in range(3 * width * fan + 1):
                store.put("k" + str(number), "v")
                other.put("k" + str(number), "v")
                self.assertEqual(store.tiers(), other.tiers())

    def test_an_empty_journal(self):
        disk = Disk({"journal": ""})
        self.assertEqual(told_of(risen(disk)), (0, [], 0, (1, 0, ((), (), ())), []))
        self.assertEqual((disk.files(), disk.steps()), ({"journal": ""}, 0))


class FromAJournalAlone(unittest.TestCase):
    def test_its_deeds_are_in_hand(self):
        text = record(1, [("put", "a", "x")]) + record(2, [("put", "b", "y"), ("drop", "a"), ("put", "c", "")])
        disk = Disk({"journal": text})
        store = risen(disk)
        self.assertEqual(told_of(store), (4, [("b", "y"), ("c", "")], 2, (1, 0, ((), (), ())), []))
        self.assertEqual((store.road("a"), disk.files(), disk.steps()), ([("hand", "there")], {"journal": text}, 0))
        self.assertEqual((store.put("d", "z"), disk.text("journal")), (3, text + record(3, [("put", "d", "z")])))

    def test_of_two_deeds_of_a_record_with_one_key_the_later_one_counts(self):
        deeds = [("put", "a", "x"), ("drop", "a"), ("drop", "b"), ("put", "b", "y")]
        store = risen(Disk({"journal": record(1, deeds)}))
        self.assertEqual((store.many(), store.walk()), (2, [("b", "y")]))

    def test_stamps_that_do_not_rise(self):
        text = record(7, [("put", "a", "7")]) + record(3, [("put", "a", "3")]) + record(5, [("put", "b", "5")])
        store = risen(Disk({"journal": text}))
        self.assertEqual(told_of(store), (3, [("a", "7"), ("b", "5")], 7, (1, 0, ((), (), ())), []))
        self.assertEqual(store.put("a", "8"), 8)

    def test_two_records_of_one_stamp(self):
        store = risen(Disk({"journal": record(4, [("put", "a", "x")]) + record(4, [("drop", "a"), ("put", "b", "y")])}))
        self.assertEqual((store.many(), store.walk(), store.put("c", "")), (2, [("b", "y")], 5))

    def test_the_hand_is_not_poured_however_full_it_is(self):
        text = "".join(record(number, [("put", "k" + str(number), "v")]) for number in range(1, 31))
        for width in [1, 8, 29, 30]:
            disk = NotedDisk({"journal": text})
            store = risen(disk, width, 2)
            self.assertEqual((store.many(), store.tiers(), disk.noted), (30, (1, 0, ((), (), ())), []))
            store.put("z", "v")
            self.assertEqual([step[:2] for step in disk.noted], [
                ("lengthen", "journal"), ("write", "run0000001"), ("write", "tiers"), ("write", "journal")])
            self.assertEqual((store.many(), store.tiers()), (31, (2, 31, ((1,), (), ()))))


class FromTiersAndRuns(unittest.TestCase):
    PAIRS = [("a", "a51"), ("e", "e22"), ("g", "g61")]

    def test_what_it_has(self):
        disk = Disk(FILES)
        store = risen(disk)
        self.assertEqual(told_of(store), (13, self.PAIRS, 62, TIERS, []))
        self.assertEqual([store.ask(key) for key in "abcdefg"], [dict(self.PAIRS).get(key) for key in "abcdefg"])
        names = [name for name, word in store.road("a")]
        self.assertEqual(names, ["hand", "run0000019", "run0000007", "run0000012", "run0000004"])
        self.assertEqual((disk.files(), disk.steps()), (FILES, 0))

    def test_without_a_journal(self):
        for files in [files_of("journal"), files_of(journal="")]:
            disk = Disk(files)
            store = risen(disk)
            pairs = [("a", "a51"), ("c", "c42"), ("e", "e22"), ("f", "f12")]
            self.assertEqual(told_of(store), (10, pairs, 60, TIERS, []))
            self.assertEqual((disk.files(), disk.steps(), store.put("a", "")), (files, 0, 61))

    def test_tiers_of_no_run(self):
        disk = Disk({"tiers": "fresh 5\npoured 9\ntier\ntier\ntier\n", "journal": record(9, [("put", "a", "x")])})
        store = risen(disk)
        self.assertEqual(told_of(store), (0, [], 9, (5, 9, ((), (), ())), []))
        self.assertEqual((store.put("a", "y"), store.pour(), store.tiers()), (10, None, (6, 10, ((5,), (), ()))))

    def test_records_that_are_partly_poured_already(self):
        records = [record(stamp, [("put", "g", str(stamp)), ("put", f"k{stamp}", "v")]) for stamp in range(57, 65)]
        store = risen(Disk(files_of(journal="".join(records))))
        self.assertEqual((store.many(), last_of(store), store.ask("g")), (10 + 8, 64, "64"))
        self.assertEqual([store.ask("k" + str(stamp)) for stamp in [57, 60, 61, 64]], [None, None, "v", "v"])

    def test_records_that_are_all_poured_already(self):
        text = record(59, [("put", "g", "59")]) + record(60, [("drop", "a")])
        disk = Disk(files_of(journal=text))
        store = risen(disk)
        self.assertEqual((store.many(), last_of(store), store.ask("a"), store.ask("g")), (10, 60, "a51", None))
        self.assertEqual((disk.steps(), store.put("g", "x")), (0, 61))
        self.assertEqual(disk.text("journal"), text + record(61, [("put", "g", "x")]))

    def test_records_out_of_their_order_about_poured(self):
        text = record(70, [("put", "g", "70")]) + record(60, [("put", "h", "60")]) + record(65, [("put", "g", "65")])
        store = risen(Disk(files_of(journal=text)))
        self.assertEqual((store.many(), last_of(store), store.ask("g"), store.ask("h")), (12, 70, "70", None))

    def test_the_stamp_given_last(self):
        for poured, stamps, last in [(0, [], 0), (5, [], 5), (5, [3], 5), (5, [6], 6), (0, [999999998], 999999998)]:
            text = "".join(record(stamp, [("put", "a", "x")]) for stamp in stamps)
            store = risen(Disk({"tiers": tiers_text((1, poured, ((), (), ()))), "journal": text}))
            self.assertEqual((last_of(store), store.put("b", "")), (last, last + 1))

    def test_it_pours_on(self):
        disk = NotedDisk(FILES)
        store = risen(disk, 4, 3)
        store.put("h", "h63")
        self.assertEqual([step[:2] for step in disk.noted], [
            ("lengthen", "journal"), ("write", "run0000020"), ("write", "tiers"), ("write", "journal"),
            ("write", "run0000021"), ("write", "tiers")] + [
            ("take off", name) for name in ["run0000007", "run0000012", "run0000019", "run0000020"]])
        self.assertEqual((store.tiers(), store.walk()), ((22, 63, ((), (21,), (4,))), self.PAIRS + [("h", "h63")]))

    def test_of_a_store_that_went_on_without_a_stop(self):
        chance = random.Random(71)
        keys = ["k" + str(number) for number in range(9)]
        for case in range(60):
            width, fan = chance.choice([1, 2, 5]), chance.choice([2, 3])
            disk, plain = Disk(), Plain()
            store = Store(disk, width, fan)
            for number in range(chance.randint(1, 60)):
                key = chance.choice(keys)
                deed = ("put", key, str(number)) if chance.random() < 0.6 else ("drop", key)
                self.assertEqual(store.both([deed]), plain.tell([deed]))
            after = Disk(disk.files())
            again = risen(after, width, fan)
            self.assertEqual(told_of(again), told_of(store))
            self.assertEqual((after.files(), after.steps()), (disk.files(), 0))
            self.assertEqual([again.road(key) for key in keys], [store.road(key) for key in keys])
            check_answers(self, again, plain, keys, [None])

    def test_nothing_is_held(self):
        disk = Disk()
        store = Store(disk)
        store.snapshot()
        store.put("a", "x")
        store.snapshot()
        self.assertEqual(risen(disk).held(), [])
        self.assertEqual(store.held(), [0, 1])


class WrongFiles(unittest.TestCase):
    def check_refused(self, files, name):
        for stop in [None, 0, 3]:
            disk = Disk(files, stop)
            with self.assertRaises(BadFile) as caught:
                risen(disk)
            self.assertEqual(caught.exception.name, name)
            self.assertEqual((disk.files(), disk.steps(), disk.has_stopped()), (files, 0, False))

    def test_each_of_the_files(self):
        for name in READ:
            self.check_refused(files_of(**{name: FILES[name].replace("\n", " ", 1) + "\n"}), name)

    def test_each_of_the_files_without_signs_but_the_journal(self):
        for name in READ[:-1]:
            self.check_refused(files_of(**{name: ""}), name)

    def test_a_runs_file_that_is_not_there(self):
        for name in RUNS:
            self.check_refused(files_of(name), name)

    def test_no_run_is_there(self):
        self.check_refused({"tiers": FILES["tiers"]}, "run0000004")

    def test_two_wrong_at_once_the_first_is_named(self):
        for first, second in itertools.combinations(READ, 2):
            self.check_refused(files_of(**{first: "wrong" * 9, second: "wrong" * 9}), first)

    def test_one_wrong_and_one_not_there(self):
        for first, second in itertools.combinations(READ, 2):
            if first.startswith("run"):
                self.check_refused(files_of(first, **{second: "wrong" * 9}), first)
            if second.startswith("run"):
                self.check_refused(files_of(second, **{first: "wrong" * 9}), first)
            if first.startswith("run") and second.startswith("run"):
                self.check_refused(files_of(first, second), first)

    def test_nothing_is_taken_off_or_cut_then(self):
        strangers = {name: "x" for name in STRANGERS}
        for name in READ[:-1]:
            self.check_refused(files_of(**{name: "wrong" * 9}, **strangers, journal=JOURNAL + "torn"), name)
        self.check_refused(files_of(**strangers, journal="0" * 19), "journal")

    def test_a_journal_with_a_wrong_record(self):
        wrong = ["000000063 01 00006\nx01ax\n", "000000000 01 00006\np01ax\n", "000000063 02 00006\np01ax\n",
                 "000000063 21 00006\n", "000000063_01 00006\n"]
        for text in wrong:
            self.check_refused(files_of(journal=text), "journal")
            self.check_refused(files_of(journal=JOURNAL + text), "journal")
            self.check_refused(files_of(journal=JOURNAL + text + record(64, [("drop", "a")])), "journal")

    def test_a_wrong_record_is_refused_though_its_stamp_is_poured(self):
        self.check_refused(files_of(journal="000000003 01 00006\nx01ax\n"), "journal")

    def test_a_journal_that_is_wrong_where_nothing_else_lies(self):
        self.check_refused({"journal": "no journal, but more than 19 signs"}, "journal")

    def test_a_run_that_another_was_written_over(self):
        self.check_refused(files_of(run0000007=FILES["run0000012"][:-1]), "run0000007")
        self.assertEqual(risen(Disk(files_of(run0000007=FILES["run0000012"]))).ask("c"), None)

    def test_files_of_nobody_are_not_read(self):
        disk = Disk(files_of(run0000003="wrong", run0000020="wrong"))
        self.assertEqual(told_of(risen(disk)), told_of(risen(Disk(FILES))))

    def test_runs_without_tiers_are_nobodys(self):
        disk = Disk({"run0000001": "wrong", "run0000002": FILES["run0000004"], "journal": JOURNAL})
        self.assertEqual((risen(disk).many(), disk.files()), (3, {"journal": JOURNAL}))


class Steps(unittest.TestCase):
    def steps_of(self, files):
        disk = NotedDisk(files)
        store = risen(disk)
        return store, disk, disk.noted

    def test_files_of_nobody_are_taken_off_by_names_rising(self):
        names = list(STRANGERS)
        random.Random(72).shuffle(names)
        files = dict({name: "x" for name in names}, **FILES)
        store, disk, noted = self.steps_of(files)
        self.assertEqual(noted, [("take off", name) for name in sorted(STRANGERS)])
        self.assertEqual((disk.files(), told_of(store)), (FILES, told_of(risen(Disk(FILES)))))

    def test_a_torn_journal_is_cut_off(self):
        more = record(63, [("put", "a", "more"), ("drop", "e")])
        for end in range(1, len(more)):
            store, disk, noted = self.steps_of(files_of(journal=JOURNAL + more[:end]))
            self.assertEqual(noted, [("write", "journal", JOURNAL)])
            self.assertEqual((disk.files(), told_of(store)), (FILES, told_of(risen(Disk(FILES)))))
        store, disk, noted = self.steps_of(files_of(journal=JOURNAL + more))
        self.assertEqual((noted, store.ask("a"), last_of(store)), ([], "more", 63))

    def test_a_journal_that_is_torn_from_its_beginning(self):
        store, disk, noted = self.steps_of({"journal": "000"})
        self.assertEqual((noted, disk.files()), ([("write", "journal", "")], {"journal": ""}))
        self.assertEqual((store.many(), last_of(store)), (0, 0))

    def test_the_stamp_of_a_torn_record_was_not_given(self):
        store, disk, noted = self.steps_of(files_of(journal=JOURNAL + record(99, [("drop", "a")])[:-1]))
        self.assertEqual((last_of(store), store.put("h", ""), disk.text("journal")),
                         (62, 63, JOURNAL + record(63, [("put", "h", "")])))

    def test_files_ahead_of_the_journal(self):
        store, disk, noted = self.steps_of(files_of(zz="", a="", journal=JOURNAL + "0"))
        self.assertEqual(noted, [("take off", "a"), ("take off", "zz"), ("write", "journal", JOURNAL)])

    def test_it_lies_on_the_same_disk(self):
        disk = Disk(FILES)
        store = risen(disk)
        store.put("h", "x")
        self.assertEqual((disk.steps(), disk.text("journal")), (1, JOURNAL + record(63, [("put", "h", "x")])))

    def test_the_steps_done_ahead_count_on(self):
        disk = Disk(FILES)
        disk.write("a", "")
        risen(disk)
        self.assertEqual(disk.steps(), 2)


class AStop(unittest.TestCase):
    def stopped_disk(self, files):
        disk = Disk(files, 1, 2)
        disk.write("w", "")
        with self.assertRaises(Stopped):
            disk.lengthen("w", "xyz")
        return disk

    def test_a_disk_that_has_stopped_first_of_all(self):
        for files in [{}, FILES, files_of(tiers="wrong"), files_of("run0000004"), files_of(journal="wrong" * 9)]:
            disk = self.stopped_disk(files)
            with self.assertRaises(Stopped) as caught:
                risen(disk)
            self.assertEqual((caught.exception.step, disk.steps(), disk.files()), (1, 1, dict(files, w="xy")))

    def test_one_at_its_stop_that_needs_no_step(self):
        disk = Disk(FILES, 0)
        self.assertEqual(told_of(risen(disk)), told_of(risen(Disk(FILES))))
        self.assertIs(disk.has_stopped(), False)

    def test_amid_the_steps(self):
        files = files_of(a="", b="", zz="", journal=JOURNAL + "torn")
        wanted = told_of(risen(Disk(FILES)))
        left = [["a", "b", "zz"], ["b", "zz"], ["zz"], []]
        for many in range(4):
            disk = Disk(files, many)
            with self.assertRaises(Stopped) as caught:
                risen(disk)
            self.assertEqual((caught.exception.step, disk.steps()), (many, many))
            self.assertEqual(disk.files(), files_of(journal=JOURNAL + "torn", **{name: "" for name in left[many]}))
            after = Disk(disk.files())
            self.assertEqual((told_of(risen(after)), after.files(), after.steps()), (wanted, FILES, 4 - many))
        disk = Disk(files, 4)
        self.assertEqual((told_of(risen(disk)), disk.steps(), disk.has_stopped()), (wanted, 4, False))


if __name__ == "__main__":
    unittest.main()
