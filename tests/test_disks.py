"""[5.1], [5.2], [5.3]: a disk, its files and steps, and how it stops."""

import itertools
import random
import unittest

from tierstore.disks import Disk, refuse_a_stopped_one
from tierstore.errors import NoFile, Stopped

FILES = {"b": "two", "a": "one", "": "of no name", "c": ""}


def stepped(many):
    """A disk that has done so many steps."""
    disk = Disk()
    for number in range(many):
        disk.write("w", str(number))
    return disk


class Asking(unittest.TestCase):
    def test_a_new_one_of_nothing(self):
        for disk in [Disk(), Disk(None), Disk({}), Disk(None, None, 0)]:
            self.assertEqual((disk.names(), disk.files(), disk.steps()), ([], {}, 0))
            self.assertIs(disk.has("a"), False)
            self.assertIs(disk.has_stopped(), False)

    def test_a_new_one_of_files(self):
        disk = Disk(FILES)
        self.assertEqual((disk.names(), disk.files(), disk.steps()), (["", "a", "b", "c"], FILES, 0))
        for name, text in FILES.items():
            self.assertIs(disk.has(name), True)
            self.assertEqual(disk.text(name), text)
        self.assertIs(disk.has("d"), False)
        self.assertIs(disk.has_stopped(), False)

    def test_names_rise_as_texts_are_compared(self):
        names = ["run0000010", "tiers", "journal", "Run", "run0000009", " ", "~", "10", "9", "run"]
        disk = Disk()
        for name in names:
            disk.write(name, "")
        rising = [" ", "10", "9", "Run", "journal", "run", "run0000009", "run0000010", "tiers", "~"]
        self.assertEqual(disk.names(), rising)
        self.assertIs(type(disk.names()), list)
        disk.take_off("journal")
        rising.remove("journal")
        self.assertEqual(disk.names(), rising)

    def test_a_text_that_is_not_there(self):
        disk = Disk(FILES)
        for name in ["d", "A", "a ", "one"]:
            with self.assertRaises(NoFile) as caught:
                disk.text(name)
            self.assertEqual(caught.exception.name, name)
        self.assertEqual((disk.steps(), disk.files(), disk.has_stopped()), (0, FILES, False))

    def test_asking_is_no_step(self):
        disk = Disk(FILES, 1)
        for time in range(3):
            self.assertEqual((disk.names(), disk.has("a"), disk.text("a")), (["", "a", "b", "c"], True, "one"))
            self.assertEqual((disk.files(), disk.steps(), disk.has_stopped()), (FILES, 0, False))
        disk.write("a", "x")
        self.assertEqual(disk.steps(), 1)


class Steps(unittest.TestCase):
    def test_each_answers_none(self):
        disk = Disk()
        self.assertIsNone(disk.write("a", "x"))
        self.assertIsNone(disk.lengthen("a", "y"))
        self.assertIsNone(disk.take_off("a"))

    def test_written_anew(self):
        disk = Disk()
        disk.write("a", "one")
        disk.write("b", "")
        self.assertEqual((disk.files(), disk.steps()), ({"a": "one", "b": ""}, 2))

    def test_written_over(self):
        disk = Disk({"a": "a long text", "b": "x"})
        for number, text in enumerate(["short", "", "a longer text by far", "\n"]):
            disk.write("a", text)
            self.assertEqual((disk.files(), disk.steps()), ({"a": text, "b": "x"}, number + 1))

    def test_written_over_by_the_same(self):
        disk = Disk({"a": "x"})
        disk.write("a", "x")
        self.assertEqual((disk.files(), disk.steps()), ({"a": "x"}, 1))

    def test_lengthened(self):
        disk = Disk({"a": "one\n", "b": "x"})
        disk.lengthen("a", "two\n")
        self.assertEqual((disk.text("a"), disk.steps()), ("one\ntwo\n", 1))
        disk.lengthen("a", "")
        self.assertEqual((disk.text("a"), disk.steps()), ("one\ntwo\n", 2))
        disk.lengthen("a", "3")
        self.assertEqual((disk.files(), disk.steps()), ({"a": "one\ntwo\n3", "b": "x"}, 3))

    def test_one_that_is_not_there_lengthened_by_some_signs(self):
        disk = Disk({"b": "x"})
        disk.lengthen("a", "one")
        self.assertEqual((disk.files(), disk.steps()), ({"a": "one", "b": "x"}, 1))
        disk.lengthen("a", "two")
        self.assertEqual((disk.files(), disk.steps()), ({"a": "onetwo", "b": "x"}, 2))

    def test_one_that_is_not_there_lengthened_by_none(self):
        disk = Disk()
        disk.lengthen("a", "")
        self.assertEqual((disk.files(), disk.has("a"), disk.steps()), ({"a": ""}, True, 1))

    def test_torn_counts_for_nothing_ahead_of_the_stop(self):
        for disk in [Disk(None, None, 2), Disk(None, 9, 2)]:
            disk.lengthen("a", "onetwo")
            self.assertEqual(disk.files(), {"a": "onetwo"})

    def test_taken_off(self):
        disk = Disk({"a": "x", "b": "y", "": "z"})
        disk.take_off("a")
        self.assertEqual((disk.files(), disk.has("a"), disk.steps()), ({"b": "y", "": "z"}, False, 1))
        disk.take_off("")
        self.assertEqual((disk.files(), disk.names(), disk.steps()), ({"b": "y"}, ["b"], 2))

    def test_taken_off_and_there_again(self):
        disk = Disk({"a": "x"})
        disk.take_off("a")
        disk.lengthen("a", "y")
        self.assertEqual((disk.files(), disk.steps()), ({"a": "y"}, 2))
        disk.take_off("a")
        disk.write("a", "z")
        self.assertEqual((disk.files(), disk.steps()), ({"a": "z"}, 4))

    def test_taking_off_what_is_not_there_is_refused_and_no_step(self):
        disk = Disk({"a": "x"})
        for name in ["b", "", "A", "x"]:
            with self.assertRaises(NoFile) as caught:
                disk.take_off(name)
            self.assertEqual(caught.exception.name, name)
            self.assertEqual((disk.files(), disk.steps(), disk.has_stopped()), ({"a": "x"}, 0, False))
        disk.take_off("a")
        with self.assertRaises(NoFile):
            disk.take_off("a")
        self.assertEqual((disk.files(), disk.steps()), ({}, 1))

    def test_what_is_refused_with_no_file_brings_the_stop_no_nearer(self):
        disk = Disk({"a": "x"}, 1)
        for time in range(3):
            with self.assertRaises(NoFile):
                disk.take_off("b")
        disk.take_off("a")
        self.assertEqual((disk.steps(), disk.has_stopped()), (1, False))

    def test_many_steps_without_a_stop(self):
        disk = stepped(5000)
        self.assertEqual((disk.steps(), disk.has_stopped(), disk.files()), (5000, False, {"w": "4999"}))


class OwnFiles(unittest.TestCase):
    def change(self, files):
        files["a"] = "changed"
        files["new"] = "x"
        files.pop("b")

    def test_what_is_handed_in_stays_as_it_is(self):
        files = dict(FILES)
        disk = Disk(files)
        disk.write("a", "x")
        disk.lengthen("b", "y")
        disk.lengthen("new", "y")
        disk.take_off("c")
        self.assertEqual(files, FILES)

    def test_what_is_handed_in_stays_as_it_is_through_a_stop(self):
        files = dict(FILES)
        with self.assertRaises(Stopped):
            Disk(files, 0, 1).lengthen("a", "xyz")
        self.assertEqual(files, FILES)

    def test_what_is_handed_in_is_changed_later(self):
        files = dict(FILES)
        disk = Disk(files)
        self.change(files)
        self.assertEqual((disk.files(), disk.names()), (FILES, ["", "a", "b", "c"]))

    def test_what_is_told_is_changed_later(self):
        disk = Disk(FILES)
        self.change(disk.files())
        disk.names().append("new")
        self.assertEqual((disk.files(), disk.names()), (FILES, ["", "a", "b", "c"]))

    def test_what_is_told_stays_as_it_is(self):
        disk = Disk(FILES)
        told, names = disk.files(), disk.names()
        disk.write("a", "x")
        disk.lengthen("b", "y")
        disk.take_off("c")
        self.assertEqual((told, names), (FILES, ["", "a", "b", "c"]))

    def test_two_beside_each_other(self):
        for one, other in [(Disk(), Disk()), (Disk(FILES), Disk(FILES))]:
            ahead = other.files()
            one.write("a", "x")
            one.lengthen("journal", "y")
            one.stop_in(0, 1)
            with self.assertRaises(Stopped):
                one.lengthen("b", "zz")
            self.assertEqual((other.files(), other.steps(), other.has_stopped()), (ahead, 0, False))
            other.write("a", "own")
            self.assertEqual((one.text("a"), other.text("a"), other.steps()), ("x", "own", 1))


class Stops(unittest.TestCase):
    def refused(self, disk, many, step, *arguments):
        with self.assertRaises(Stopped) as caught:
            step(*arguments)
        self.assertEqual(caught.exception.step, many)
        self.assertEqual((disk.steps(), disk.has_stopped()), (many, True))

    def each_disk_at_its_stop(self, files, torn):
        """Told as they are made, at once behind it and at the last moment, behind 0, 1 and several steps."""
        for many in [0, 1, 5]:
            disks = [Disk(files, many, torn), Disk(files), Disk(files)]
            disks[1].stop_in(many, torn)
            for disk, number in itertools.product(disks, range(many)):
                disk.write("w", str(number))
            disks[2].stop_in(0, torn)
            for disk in disks:
                self.assertEqual((disk.steps(), disk.has_stopped()), (many, False))
                yield disk, many

    def test_told_as_it_is_made(self):
        for many in [0, 1, 2, 7]:
            disk = Disk(None, many)
            for number in range(many):
                disk.write("a", str(number))
                self.assertEqual((disk.steps(), disk.has_stopped()), (number + 1, False))
            ahead = disk.files()
            self.refused(disk, many, disk.write, "a", "x")
            self.assertEqual(disk.files(), ahead)

    def test_told_later(self):
        for done, many in itertools.product([0, 1, 4], [0, 1, 3]):
            disk = stepped(done)
            self.assertIsNone(disk.stop_in(many))
            self.assertEqual((disk.steps(), disk.has_stopped()), (done, False))
            for number in range(many):
                disk.write("a", str(number))
            self.assertIs(disk.has_stopped(), False)
            ahead = disk.files()
            self.refused(disk, done + many, disk.write, "a", "x")
            self.assertEqual(disk.files(), ahead)

    def test_steps_of_each_kind_bring_the_stop_nearer(self):
        disk = Disk({"a": "x"}, 3)
        disk.lengthen("a", "y")
        disk.take_off("a")
        disk.write("b", "z")
        self.refused(disk, 3, disk.write, "c", "")
        self.assertEqual(disk.files(), {"b": "z"})

    def test_the_first_refused_is_a_writing(self):
        for torn in [0, 1, 9]:
            for disk, many in self.each_disk_at_its_stop({"a": "one"}, torn):
                ahead = disk.files()
                self.refused(disk, many, disk.write, "a", "xyz")
                self.refused(disk, many, disk.write, "new", "xyz")
                self.assertEqual(disk.files(), ahead)

    def test_the_first_refused_is_a_writing_of_a_new_file(self):
        disk = Disk({"a": "one"}, 0, 9)
        self.refused(disk, 0, disk.write, "new", "xyz")
        self.assertEqual(disk.files(), {"a": "one"})

    def test_the_first_refused_is_a_taking_off(self):
        for torn in [0, 1, 9]:
            for disk, many in self.each_disk_at_its_stop({"a": "one"}, torn):
                ahead = disk.files()
                self.refused(disk, many, disk.take_off, "a")
                self.assertEqual(disk.files(), ahead)

    def test_the_first_refused_is_a_taking_off_of_what_is_not_there(self):
        for disk, many in self.each_disk_at_its_stop({"a": "one"}, 9):
            ahead = disk.files()
            self.refused(disk, many, disk.take_off, "b")
            self.refused(disk, many, disk.lengthen, "a", "xyz")
            self.assertEqual(disk.files(), ahead)

    def test_the_first_refused_is_a_lengthening(self):
        for torn, text in [(0, "one"), (1, "onex"), (2, "onexy"), (3, "onexyz"), (4, "onexyz"), (99999, "onexyz")]:
            for disk, many in self.each_disk_at_its_stop({"a": "one", "b": "two"}, torn):
                after = dict(disk.files(), a=text)
                self.refused(disk, many, disk.lengthen, "a", "xyz")
                self.assertEqual(disk.files(), after)

    def test_a_lengthening_of_a_file_that_is_not_there(self):
        for torn, after in [(0, {}), (1, {"new": "x"}), (3, {"new": "xyz"}), (4, {"new": "xyz"})]:
            disk = Disk(None, 0, torn)
            self.refused(disk, 0, disk.lengthen, "new", "xyz")
            self.assertEqual((disk.files(), disk.has("new")), (after, torn > 0))

    def test_a_lengthening_by_no_signs(self):
        for torn in [0, 1, 9]:
            disk = Disk({"a": "one"}, 0, torn)
            self.refused(disk, 0, disk.lengthen, "new", "")
            self.assertEqual((disk.files(), disk.names()), ({"a": "one"}, ["a"]))
            disk = Disk({"a": "one"}, 0, torn)
            self.refused(disk, 0, disk.lengthen, "a", "")
            self.assertEqual(disk.files(), {"a": "one"})

    def test_a_file_of_no_signs_lengthened(self):
        disk = Disk({"a": ""}, 0)
        self.refused(disk, 0, disk.lengthen, "a", "xyz")
        self.assertEqual(disk.files(), {"a": ""})

    def test_torn_is_nought_where_nothing_is_told(self):
        one, other = Disk(None, 0), Disk()
        other.stop_in(0)
        for disk in [one, other]:
            self.refused(disk, 0, disk.lengthen, "a", "xyz")
            self.assertEqual(disk.files(), {})

    def test_all_later_steps_are_refused_with_the_same_number(self):
        firsts = [("write", "a", "new"), ("take_off", "a"), ("take_off", "b"), ("lengthen", "a", "xyz")]
        for first in firsts:
            for disk, many in self.each_disk_at_its_stop({"a": "one"}, 2):
                self.refused(disk, many, getattr(disk, first[0]), *first[1:])
                after = disk.files()
                for time in range(3):
                    self.refused(disk, many, disk.lengthen, "a", "more")
                    self.refused(disk, many, disk.lengthen, "new", "more")
                    self.refused(disk, many, disk.write, "a", "other")
                    self.refused(disk, many, disk.write, "new", "other")
                    self.refused(disk, many, disk.take_off, "a")
                    self.refused(disk, many, disk.take_off, "not there")
                self.assertEqual(disk.files(), after)

    def test_nothing_of_a_second_lengthening_arrives(self):
        disk = Disk({"a": "one"}, 0, 2)
        self.refused(disk, 0, disk.lengthen, "a", "xyz")
        self.refused(disk, 0, disk.lengthen, "a", "xyz")
        self.refused(disk, 0, disk.lengthen, "b", "xyz")
        self.assertEqual(disk.files(), {"a": "onexy"})

    def test_all_may_be_asked_of_one_that_has_stopped(self):
        disk = Disk({"b": "two", "a": "one"}, 1, 1)
        disk.write("c", "three")
        self.refused(disk, 1, disk.lengthen, "b", "xyz")
        for time in range(2):
            self.assertEqual((disk.names(), disk.steps(), disk.has_stopped()), (["a", "b", "c"], 1, True))
            self.assertEqual(disk.files(), {"a": "one", "b": "twox", "c": "three"})
            self.assertEqual((disk.has("b"), disk.has("d"), disk.text("b")), (True, False, "twox"))
            with self.assertRaises(NoFile) as caught:
                disk.text("d")
            self.assertEqual(caught.exception.name, "d")

    def test_all_may_be_asked_of_one_that_is_at_its_stop(self):
        disk = Disk({"a": "one"}, 0)
        self.assertEqual((disk.names(), disk.has("a"), disk.text("a")), (["a"], True, "one"))
        self.assertEqual((disk.files(), disk.steps()), ({"a": "one"}, 0))
        with self.assertRaises(NoFile):
            disk.text("b")
        self.assertIs(disk.has_stopped(), False)

    def test_a_second_stop_in_takes_the_place_of_the_first(self):
        for first, second in itertools.product([0, 1, 3], [0, 1, 3]):
            disk = stepped(2)
            disk.stop_in(first, 1)
            disk.stop_in(second, 2)
            for number in range(second):
                disk.write("w", "w")
            self.refused(disk, 2 + second, disk.lengthen, "w", "xyz")
            self.assertEqual(disk.text("w")[-2:], "xy")

    def test_a_second_stop_in_behind_some_steps(self):
        disk = Disk()
        disk.stop_in(3, 1)
        disk.write("a", "")
        disk.write("a", "")
        disk.stop_in(2)
        disk.write("a", "")
        disk.write("a", "")
        self.refused(disk, 4, disk.lengthen, "a", "xyz")
        self.assertEqual(disk.text("a"), "")

    def test_stop_in_takes_the_place_of_what_was_told_as_it_was_made(self):
        disk = Disk(None, 0, 2)
        disk.stop_in(1)
        disk.write("a", "one")
        self.refused(disk, 1, disk.lengthen, "a", "xyz")
        self.assertEqual(disk.files(), {"a": "one"})

    def test_one_that_has_stopped_stays_so_whatever_it_is_told(self):
        disk = Disk(None, 1)
        disk.write("a", "one")
        self.refused(disk, 1, disk.write, "a", "x")
        disk.stop_in(5, 5)
        self.refused(disk, 1, disk.lengthen, "a", "xyz")
        self.assertEqual(disk.files(), {"a": "one"})

    def test_one_that_has_stopped_is_refused_without_a_step(self):
        for disk, many in self.each_disk_at_its_stop({"a": "one"}, 0):
            self.assertIsNone(refuse_a_stopped_one(disk))
            self.refused(disk, many, disk.write, "a", "x")
            self.refused(disk, many, refuse_a_stopped_one, disk)


class Plain:
    """What a disk is to do, step by step, in plain lists: each answer with what lies behind it."""

    def __init__(self, files, stop, torn):
        self.lying = sorted(files.items())
        self.left = stop
        self.torn = torn
        self.many = 0
        self.over = False

    def step(self, word, name, text):
        old = [pair[1] for pair in self.lying if pair[0] == name]
        others = [pair for pair in self.lying if pair[0] != name]
        if self.over or self.left == 0:
            if word == "lengthen" and not self.over and min(self.torn, len(text)) > 0:
                self.lying = sorted(others + [(name, "".join(old) + text[:self.torn])])
            self.over = True
            return ("stopped", self.many)
        if word == "take_off" and old == []:
            return ("no file", name)
        self.lying = others
        if word != "take_off":
            self.lying = sorted(others + [(name, ("".join(old) if word == "lengthen" else "") + text)])
        self.many += 1
        self.left = None if self.left is None else self.left - 1
        return None


class AllTogether(unittest.TestCase):
    def told(self, disk, word, name, text):
        try:
            return getattr(disk, word)(name) if word == "take_off" else getattr(disk, word)(name, text)
        except Stopped as e:
            return ("stopped", e.step)
        except NoFile as e:
            return ("no file", e.name)

    def test_steps_as_they_come(self):
        chance = random.Random(52)
        for case in range(1500):
            files = {name: chance.choice(["", "x", "long"]) for name in "abc" if chance.random() < 0.5}
            stop, torn = chance.choice([None, 0, 1, 2, 5]), chance.randint(0, 4)
            disk, plain = Disk(files, stop, torn), Plain(files, stop, torn)
            for number in range(12):
                if not plain.over and chance.random() < 0.1:
                    plain.left, plain.torn = chance.randint(0, 3), chance.randint(0, 4)
                    disk.stop_in(plain.left, plain.torn)
                word = chance.choice(["write", "lengthen", "take_off"])
                step = (word, chance.choice("abc"), "new"[:chance.randint(0, 3)])
                self.assertEqual(self.told(disk, *step), plain.step(*step))
                self.assertEqual(list(sorted(disk.files().items())), plain.lying)
                self.assertEqual(disk.names(), [pair[0] for pair in plain.lying])
                self.assertEqual((disk.steps(), disk.has_stopped()), (plain.many, plain.over))


if __name__ == "__main__":
    unittest.main()
