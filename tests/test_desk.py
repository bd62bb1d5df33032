"""[8.1] to [8.3]: a desk, the rows that are said to it, and what it answers."""

import random
import unittest

from tests.plain import Plain
from tierstore.desk import Desk, answered
from tierstore.disks import Disk
from tierstore.errors import NoSnapshot, Stopped
from tierstore.rising import risen
from tierstore.stores import Store

NO_ROWS = [
    "", " ", "  ", "\t", "what?", 'PUT "a" "b"', 'Put "a" "b"', 'puts "a" "b"', "KEY", "put KEY VALUE",
    # Too little, or something behind.
    "put", 'put "a"', 'put "a" "b" "c"', 'put "a" b', 'put a "b"', 'put "a" "b" at 1', 'put "a", "b"',
    "drop", "drop a", 'drop "a" "b"', 'drop "a" at 0', "ask", "ask a", 'ask "a" "b"', 'ask "a" at',
    'ask "a" 0', 'ask "a" at "0"', 'ask "a" at 0 0', "ask at 0", 'ask "a" "at" 0', 'ask "a" AT 0',
    "snapshot 0", 'snapshot "a"', "snapshots", "release", 'release "0"', "release 0 0", "release at 0", "release none",
    "held 0", "held at 0", "road", "road a", 'road "a" "b"', 'road "a" at', 'road "a" 0', 'road "a" at 0 at 0',
    "pour 1", 'pour "a"', "files 1", 'files "journal"', "rise 1", "rise at 0", "up", "stopped", "none",
    "stop", 'stop "1"', "stop a", "stop 1 torn", "stop 1 2", "stop 1 torn a", "stop 1 torn 2 3", "stop torn 1",
    'stop 1 torn "2"', "stop 1 torn 2 torn 3", "stops", "stop 1, torn 2",
    # Walks with their words out of order, twice, or without what belongs to them.
    'walk "a"', "walk from", "walk below", "walk at", "walk from a", "walk below a", 'walk from "a" below',
    'walk from below "a"', 'walk below "b" from "a"', 'walk from "a" from "b"', 'walk below "a" below "b"',
    'walk at 0 from "a"', "walk at 0 at 0", 'walk from "a" at', 'walk from "a" at 0 below "b"', "walk 0",
    'walk from "a" below "b" at "0"', 'walk from "a" "b"', 'walk to "a"', 'walk "from" "a"',
    # Batches.
    "both", "both ,", 'both put "a" "b" ,', 'both , put "a" "b"', 'both put "a" "b" , , drop "a"',
    'both put "a" "b" drop "a"', 'both put "a" "b", drop "a"', 'both put "a" "b" ,drop "a"',
    'both put "a" "b" ; drop "a"', "both drop", 'both put "a"', 'both ask "a"', 'both drop "a" , ask "a"',
    'both drop "a" , pour', 'both both drop "a"', 'both drop "a" , both drop "b"', 'both "drop" "a"',
    'both drop "a" "," drop "b"', 'both drop "a" , drop "b" ,', 'both drop "a" , drop', 'both "a"',
    'both drop "a"  , drop "b"', 'both drop "a" ,  drop "b"', 'both put "a" , "b"', "both , ,",
    # Blanks.
    " pour", "pour ", "pour  ", 'put  "a" "b"', 'put "a"  "b"', 'put "a" "b" ', ' put "a" "b"',
    'put\t"a" "b"', 'put "a"\t"b"', 'put "a" "b"\t', "pour\t", 'put"a" "b"', 'put "a""b"', 'ask  "a"',
    "stop  1", "stop 1 ", 'ask "a" at  0', "walk  at 0", "held ", " held", 'put "a" "b"x', 'put x"a" "b"',
    # Quotes.
    'put "a" "b', ' "a', ' "', ' drop "a', 'put "a "b"', 'put a" "b"', 'put "a" b"', 'drop "', 'drop """', 'drop "a""',
    "drop 'a'", 'drop "a"b"', 'drop "a"b', 'drop ""a"', 'drop "a', 'drop a"', '"drop" "a"', '"drop "a""', '"pour"',
    'put """" """', '"', '""', 'ask "a"" at 0', 'put "a" "b""',
    # Numbers.
    "release 00", "release 01", "release -1", "release +1", "release 1.0", "release 1_0", "release 1234567890",
    "release 0000000000", "release 1000000000", "release 0x1", "release 1e3", "release one", 'ask "a" at 00',
    'ask "a" at 01', 'ask "a" at -0', 'ask "a" at 1234567890', 'road "a" at 007', "walk at 00", "stop 00", "stop 01",
    "stop 1234567890", "stop -1", "stop 1 torn 00", "stop 1 torn 01", "stop 1 torn 1234567890", "stop 1 torn -1",
    "stop 1 torn", "release 1 ", "release",
]


def quoted(text):
    return '"' + "".join(sign * 2 if sign == '"' else sign for sign in text) + '"'


def said(rows, width=8, fan=3):
    """A desk to which some rows were said."""
    desk = Desk(width, fan)
    for row in rows:
        desk.say(row)
    return desk


def answers(desk, rows):
    return [desk.say(row) for row in rows]


def seen_of(desk):
    """All that the rows can tell of a desk, none of which changes it."""
    return answers(desk, ["walk", "held", "files", 'road "a"']) + [desk.its_disk().files(), desk.its_disk().steps()]


class Deeds(unittest.TestCase):
    def test_put_drop_and_both(self):
        desk = Desk()
        rows = ['put "a" "x"', 'drop "a"', 'both put "a" "y"', 'both drop "a"', 'both put "b" "z" , drop "a"',
                'put "c" ""']
        self.assertEqual(answers(desk, rows), [["stamp " + str(number)] for number in range(1, 7)])
        self.assertEqual(desk.say("walk"), ['"b" "z"', '"c" ""'])

    def test_it_is_written_on_its_disk(self):
        desk = said(['put "a" "x"', 'both drop "a" , put "b" "y"'])
        journal = "000000001 01 00006\np01ax\n000000002 02 00011\ng01a\np01by\n"
        self.assertEqual(desk.its_disk().files(), {"journal": journal})
        self.assertIsInstance(desk.its_disk(), Disk)

    def test_a_batch_of_twenty(self):
        desk = Desk(200)
        self.assertEqual(desk.say("both " + " , ".join(f'put "k{number}" "v"' for number in range(20))), ["stamp 1"])
        self.assertEqual(len(desk.say("walk")), 20)

    def test_one_stamp_for_all(self):
        desk = said(['both put "a" "x" , put "b" "y"', "snapshot", 'both drop "a" , drop "b"'])
        self.assertEqual(answers(desk, ["walk", "walk at 1"]), [["none"], ['"a" "x"', '"b" "y"']])

    def test_of_two_deeds_of_a_batch_with_one_key_the_later_one_counts(self):
        desk = said(['both put "a" "x" , drop "a" , drop "b" , put "b" "y"'])
        self.assertEqual(desk.say("walk"), ['"b" "y"'])

    def test_its_width_and_fan(self):
        for arguments, width, fan in [((), 8, 3), ((2,), 2, 3), ((1, 2), 1, 2), ((200, 8), 200, 8)]:
            desk, disk = Desk(*arguments), Disk()
            store = Store(disk, width, fan)
            for number in range(2 * width * fan + 1):
                desk.say(f'put "k{number}" "v"')
                store.put("k" + str(number), "v")
                self.assertEqual(desk.say("files"), disk.names())
            self.assertEqual(desk.its_disk().files(), disk.files())

    def test_it_has_an_empty_disk_at_first(self):
        desk = Desk()
        self.assertEqual((desk.its_disk().files(), desk.its_disk().steps()), ({}, 0))
        self.assertEqual(answers(desk, ["walk", "held", "files", 'ask "a"', 'road "a"']),
                         [["none"], ["none"], ["none"], ["none"], ["hand sieve"]])

    def test_two_desks_have_nothing_in_common(self):
        one, other = Desk(), Desk()
        one.say('put "a" "x"')
        self.assertEqual((other.say("walk"), other.say("files")), (["none"], ["none"]))


class Quotes(unittest.TestCase):
    TEXTS = [
        '"', '""', '"""', 'a"b', '"a"', 'a""b', " ", "  ", " a ", ",", " , ", ', drop "a"', "put", "drop", "both", "at",
        "at 0", "from", "below", " at 0", '" "', '" , "', '" at 0', "what?", "none", "0", "007", "~!@#$^&*()_+`", "'",
        "\\", "k" * 20, '"' * 20, "value", "\\n",
    ]

    def test_keys(self):
        for text in self.TEXTS:
            desk = Desk()
            self.assertEqual(desk.say(f"put {quoted(text)} {quoted('x')}"), ["stamp 1"])
            self.assertEqual(desk.say(f"ask {quoted(text)}"), ['value "x"'])
            self.assertEqual(desk.say("walk"), [f'{quoted(text)} "x"'])
            self.assertEqual(desk.say(f"road {quoted(text)}"), ["hand there"])
            self.assertEqual(desk.say(f"drop {quoted(text)}"), ["stamp 2"])
            self.assertEqual(desk.say(f"ask {quoted(text)}"), ["none"])

    def test_values(self):
        for text in self.TEXTS + ["", "v" * 40, '"' * 40]:
            desk = Desk()
            self.assertEqual(desk.say(f'put "a" {quoted(text)}'), ["stamp 1"])
            self.assertEqual(desk.say('ask "a"'), [f"value {quoted(text)}"])
            self.assertEqual(desk.say("walk"), [f'"a" {quoted(text)}'])

    def test_in_batches(self):
        for one in self.TEXTS:
            for other in self.TEXTS:
                desk = Desk(200)
                row = f"both put {quoted(one)} {quoted(other)} , drop {quoted(other)} , put {quoted('k')} {quoted(one)}"
                self.assertEqual(desk.say(row), ["stamp 1"])
                plain = Plain()
                plain.tell([("put", one, other), ("drop", other), ("put", "k", one)])
                self.assertEqual(desk.say("walk"), [f"{quoted(key)} {quoted(value)}" for key, value in plain.pairs()])

    def test_bounds(self):
        desk = said([f"put {quoted(text)} {quoted('')}" for text in self.TEXTS])
        keys = sorted(self.TEXTS)
        for low in self.TEXTS + [""]:
            told = [f'{quoted(key)} ""' for key in keys if key >= low]
            self.assertEqual(desk.say(f"walk from {quoted(low)}"), told or ["none"])
            told = [f'{quoted(key)} ""' for key in keys if key < low]
            self.assertEqual(desk.say(f"walk below {quoted(low)}"), told or ["none"])


class Questions(unittest.TestCase):
    def setUp(self):
        self.desk = said(["snapshot", 'put "a" "1"', 'put "b" "2"', "snapshot", 'drop "a"', 'put "c" "4"', "snapshot",
                          'put "b" "5"'], 3, 2)

    def check(self, told):
        for row, answer in told.items():
            self.assertEqual(self.desk.say(row), answer, row)

    def test_ask(self):
        self.check({'ask "a"': ["none"], 'ask "b"': ['value "5"'], 'ask "a" at 2': ['value "1"'], 'ask "d"': ["none"],
                    'ask "b" at 4': ['value "2"'], 'ask "c" at 2': ["none"], 'ask "c" at 4': ['value "4"'],
                    'ask "a" at 0': ["none"]})

    def test_walk(self):
        self.check({
            "walk": ['"b" "5"', '"c" "4"'], 'walk from "c"': ['"c" "4"'], 'walk below "c"': ['"b" "5"'],
            'walk from "b" below "c"': ['"b" "5"'], 'walk from "c" below "b"': ["none"],
            'walk from ""': ['"b" "5"', '"c" "4"'],
            'walk below ""': ["none"], 'walk from "b" below "b"': ["none"], 'walk from "d"': ["none"],
            "walk at 2": ['"a" "1"', '"b" "2"'], 'walk from "b" at 2': ['"b" "2"'], 'walk below "b" at 2': ['"a" "1"'],
            'walk from "a" below "b" at 2': ['"a" "1"'], "walk at 0": ["none"], 'walk from "a" below "z" at 4':
            ['"b" "2"', '"c" "4"'], 'walk from "" below "" at 4': ["none"],
        })

    def test_snapshot_release_and_held(self):
        self.check({"held": ["held 0 2 4"], "snapshot": ["stamp 5"], "release 2": ["released"], 'ask "a" at 2':
                    ["refused: snapshot"]})
        self.assertEqual(answers(self.desk, ["snapshot", "held", "release 5", "held", "release 5", "held"]),
                         [["stamp 5"], ["held 0 4 5 5"], ["released"], ["held 0 4 5"], ["released"], ["held 0 4"]])
        self.assertEqual(answers(self.desk, ["release 0", "release 4", "held", "release 4"]),
                         [["released"], ["released"], ["none"], ["refused: snapshot"]])

    def test_road(self):
        self.check({
            'road "b"': ["hand there", "run0000001 there"], 'road "b" at 4': ["hand none", "run0000001 there"],
            'road "c"': ["hand there", "run0000001 sieve"], 'road "a" at 0': ["hand sieve", "run0000001 none"],
            'road "a"': ["hand sieve", "run0000001 there"],
        })

    def test_pour_and_files(self):
        self.check({"files": ["journal", "run0000001", "tiers"]})
        self.assertEqual(answers(self.desk, ["pour", "files"]), [["poured"], ["journal", "run0000003", "tiers"]])
        self.assertEqual(answers(self.desk, ["pour", "walk"]), [["poured"], ['"b" "5"', '"c" "4"']])

    def test_pour_of_nothing(self):
        desk = Desk()
        self.assertEqual((desk.say("pour"), desk.say("files"), desk.its_disk().steps()), (["poured"], ["none"], 0))

    def test_questions_change_nothing(self):
        ahead = seen_of(self.desk)
        for row in ["walk", 'ask "a"', 'road "a" at 2', "held", "files", "walk at 2"]:
            self.desk.say(row)
            self.assertEqual(seen_of(self.desk), ahead)

    def test_what_is_told_is_the_askers_own(self):
        for row in ["walk", "files", "held", 'road "a"', 'ask "b"', "what?"]:
            told = self.desk.say(row)
            kept = list(told)
            told.append("more")
            self.assertEqual(self.desk.say(row), kept)
        told = self.desk.say("walk")
        self.desk.say('drop "b"')
        self.assertEqual(told, ['"b" "5"', '"c" "4"'])


class Stops(unittest.TestCase):
    def test_behind_so_many_more_steps(self):
        for many in range(4):
            desk = said(['put "a" "x"'])
            self.assertEqual(desk.say(f"stop {many}"), ["stops"])
            for number in range(many):
                self.assertEqual(desk.say(f'put "b" "{number}"'), [f"stamp {number + 2}"])
            self.assertEqual(desk.say('put "c" "y"'), ["stopped"])
            self.assertEqual(desk.its_disk().has_stopped(), True)

    def test_each_row_behind_it_but_files_and_rise(self):
        rows = ['put "a" "x"', 'drop "a"', 'both drop "a"', 'ask "a"', 'ask "a" at 0', "walk", "walk at 0", "snapshot",
                "held", "release 0", 'road "a"', 'road "a" at 0', "pour", "stop 0", "stop 5", "stop 5 torn 1"]
        desk = said(['put "a" "x"', "snapshot", "stop 0", 'put "b" "y"'])
        for row in rows + rows:
            self.assertEqual(desk.say(row), ["stopped"], row)
            self.assertEqual(desk.say("files"), ["journal"])
        self.assertEqual(answers(desk, ["rise", "walk"]), [["up 1"], ['"a" "x"']])

    def test_it_comes_ahead_of_what_is_refused(self):
        rows = ['put "" "x"', 'put "a" "' + "v" * 41 + '"', 'drop ""', 'both drop ""', 'ask ""', 'ask "a" at 9',
                "walk at 9", "release 9", 'road "" at 9']
        desk = said(["stop 0", 'put "b" "y"'])
        for row in rows:
            self.assertEqual(desk.say(row), ["stopped"], row)

    def test_files_of_one_that_has_stopped_and_has_none(self):
        self.assertEqual(answers(Desk(), ["stop 0", 'put "a" "x"', "files"]), [["stops"], ["stopped"], ["none"]])

    def test_rows_that_take_no_step_come_to_no_stop(self):
        desk = said(['put "a" "x"', "pour", "stop 0"])
        rows = ['ask "a"', "walk", "snapshot", "held", "release 1", 'road "a"', "pour", "files", 'put "" ""', "what"]
        self.assertEqual(answers(desk, rows), [
            ['value "x"'], ['"a" "x"'], ["stamp 1"], ["held 1"], ["released"], ["hand sieve", "run0000001 there"],
            ["poured"], ["journal", "run0000001", "tiers"], ["refused: key"], ["what?"]])
        self.assertEqual(desk.say('drop "a"'), ["stopped"])

    def test_a_second_stop_takes_the_place_of_the_first(self):
        desk = Desk()
        self.assertEqual(answers(desk, ["stop 0 torn 9", "stop 2 torn 3", 'put "a" "x"', "stop 1", 'put "b" "y"']),
                         [["stops"], ["stops"], ["stamp 1"], ["stops"], ["stamp 2"]])
        self.assertEqual(answers(desk, ['put "c" "z"', "rise", "walk"]),
                         [["stopped"], ["up 2"], ['"a" "x"', '"b" "y"']])

    def test_torn(self):
        whole = "000000001 01 00006\np01ax\n"
        for torn in [0, 1, 18, 19, 24, 25, 26, 999999999]:
            desk = Desk()
            self.assertEqual(answers(desk, [f"stop 0 torn {torn}", 'put "a" "x"']), [["stops"], ["stopped"]])
            self.assertEqual(desk.its_disk().files(), {"journal": whole[:torn]} if torn else {})
            told = [["up 1"], ['value "x"']] if torn >= len(whole) else [["up 0"], ["none"]]
            self.assertEqual(answers(desk, ["rise", 'ask "a"']), told)
            self.assertEqual(desk.say("files"), ["journal"] if torn else ["none"])

    def test_nothing_is_torn_where_nothing_is_told(self):
        desk = said(["stop 5 torn 9", "stop 0", 'put "a" "x"'])
        self.assertEqual(desk.its_disk().files(), {})

    def test_amid_a_pouring(self):
        for many in range(1, 13):
            desk = said(['put "a" "x"', f"stop {many}", 'put "b" "y"', 'put "c" "z"', "pour"], 2, 2)
            self.assertEqual(desk.say("walk"), ["stopped"] if many < 12 else ['"a" "x"', '"b" "y"', '"c" "z"'])
            # The first step is the record of "b", then three pour the hand, and the fifth is the record of "c".
            walk = ['"a" "x"', '"b" "y"'] + (['"c" "z"'] if many > 4 else [])
            self.assertEqual(answers(desk, ["rise", "walk"]), [["up 3" if many > 4 else "up 2"], walk])


class Rise(unittest.TestCase):
    def test_without_a_stop_ahead(self):
        desk = said(['put "a" "x"', "snapshot", 'put "b" "y"'])
        self.assertEqual(answers(desk, ["rise", "walk", "held", 'ask "a" at 1', "rise", 'put "c" "z"']),
                         [["up 2"], ['"a" "x"', '"b" "y"'], ["none"], ["refused: snapshot"], ["up 2"], ["stamp 3"]])

    def test_of_nothing(self):
        desk = Desk()
        self.assertEqual(answers(desk, ["rise", "walk", "files", 'put "a" "x"']),
                         [["up 0"], ["none"], ["none"], ["stamp 1"]])

    def test_its_disk_does_not_stop_any_more(self):
        desk = said(['put "a" "x"', "stop 1", "rise"])
        self.assertEqual(answers(desk, [f'put "b" "{number}"' for number in range(9)])[-1], ["stamp 10"])
        desk = said(['put "a" "x"', "stop 0", 'put "b" "y"', "rise"])
        self.assertEqual(answers(desk, [f'put "b" "{number}"' for number in range(9)])[-1], ["stamp 10"])
        self.assertEqual(desk.its_disk().has_stopped(), False)

    def test_several_stops(self):
        desk = Desk(2, 2)
        for time in range(12):
            desk.say(f"stop {time % 5} torn {time * 7}")
            while desk.say('put "a" "x"') != ["stopped"]:
                pass
            self.assertEqual(desk.say("rise")[0][:3], "up ")
        self.assertEqual(desk.say("walk"), ['"a" "x"'])

    def test_a_torn_journal_is_cut_off(self):
        desk = said(['put "a" "x"', "stop 0 torn 7", 'put "b" "y"'])
        self.assertEqual(desk.its_disk().text("journal"), "000000001 01 00006\np01ax\n0000000")
        self.assertEqual(desk.say("rise"), ["up 1"])
        self.assertEqual(desk.its_disk().files(), {"journal": "000000001 01 00006\np01ax\n"})

    def test_files_of_nobody_are_gone(self):
        desk = said(['put "a" "x"', "stop 5", 'put "b" "y"'], 1, 2)
        self.assertEqual(desk.say("files"), ["journal", "run0000001", "run0000002", "run0000003", "tiers"])
        self.assertEqual(answers(desk, ["rise", "files", "walk"]),
                         [["up 2"], ["journal", "run0000001", "run0000002", "tiers"], ['"a" "x"', '"b" "y"']])

    def test_its_disk_is_the_one_that_the_store_has(self):
        desk = said(['put "a" "x"', "rise", 'put "b" "y"'])
        self.assertEqual(desk.its_disk().files(), said(['put "a" "x"', 'put "b" "y"']).its_disk().files())

    def test_it_keeps_its_width_and_fan(self):
        desk = said(['put "a" "1"', "rise", 'put "b" "2"', 'put "c" "3"', "rise", 'put "d" "4"'], 2, 2)
        self.assertEqual(desk.say("files"), ["journal", "run0000003", "tiers"])


class Refused(unittest.TestCase):
    ROWS = ['put "a" "x"', 'put "b" "y"', "snapshot", 'drop "a"', "snapshot", 'put "c" "z"']

    def check_refused(self, row, word):
        desk = said(self.ROWS, 3, 2)
        ahead = seen_of(desk)
        self.assertEqual(desk.say(row), [word], row)
        self.assertEqual(seen_of(desk), ahead)
        self.assertEqual(desk.say('put "d" "v"'), ["stamp 5"])

    def test_a_key(self):
        for key in ["", "k" * 21, '"' * 21, "a\tb"]:
            for row in ['put KEY "x"', "drop KEY", "ask KEY", "ask KEY at 2", "road KEY", "road KEY at 3"]:
                self.check_refused(row.replace("KEY", quoted(key)), "refused: key")

    def test_a_value(self):
        for value in ["v" * 41, '"' * 41, "a\tb"]:
            self.check_refused(f'put "a" {quoted(value)}', "refused: value")

    def test_a_deed(self):
        long_ones = [f'put "a" "{"v" * 41}"', f'drop "{"k" * 21}"']
        for deed in long_ones + ['put "" "x"', 'drop ""', 'drop "a\tb"', 'put "" "\t"']:
            self.check_refused(f"both {deed}", "refused: deed")
            self.check_refused(f'both put "z" "z" , {deed}', "refused: deed")
            self.check_refused(f'both {deed} , put "z" "z"', "refused: deed")

    def test_a_snapshot(self):
        for stamp in ["0", "1", "4", "5", "999999999", "123456789"]:
            for row in ['ask "a" at STAMP', "walk at STAMP", 'walk from "a" at STAMP', 'walk from "" below "" at STAMP',
                        'road "a" at STAMP', "release STAMP"]:
                self.check_refused(row.replace("STAMP", stamp), "refused: snapshot")

    def test_two_at_once_the_earlier_comes(self):
        self.check_refused(f'put "" "{"v" * 41}"', "refused: key")
        self.check_refused('ask "" at 9', "refused: key")
        self.check_refused('road "" at 9', "refused: key")

    def test_rows_that_are_none(self):
        for row in NO_ROWS:
            self.check_refused(row, "what?")

    def test_rows_that_are_none_said_to_one_that_has_stopped(self):
        desk = said(['put "a" "x"', "stop 0 torn 3", 'put "b" "y"'])
        ahead = desk.its_disk().files()
        for row in NO_ROWS:
            self.assertEqual(desk.say(row), ["what?"], row)
        self.assertEqual((desk.its_disk().files(), desk.say("walk"), desk.say("rise")), (ahead, ["stopped"], ["up 1"]))

    def test_rows_that_are_none_bring_no_stop_nearer(self):
        desk = said(["stop 1"] + NO_ROWS)
        self.assertEqual(answers(desk, ['put "a" "x"', 'put "a" "x"']), [["stamp 1"], ["stopped"]])

    def test_each_row_that_is_one_without_its_last_sign(self):
        rows = ['put "a" "x"', 'drop "a"', 'both put "a" "x"', 'both drop "a" , drop "b"', 'ask "a"', 'walk from "a"',
                "held", 'walk below "a"', "snapshot", 'road "a"', "pour", "files", "rise", "walk"]
        for row in rows:
            self.assertNotEqual(Desk().say(row), ["what?"])
            self.check_refused(row[:-1], "what?")
            self.check_refused(row[1:], "what?")


class Answered(unittest.TestCase):
    def test_of_no_row(self):
        self.assertEqual(answered(""), ["what?"])

    def test_of_one_and_of_several(self):
        self.assertEqual(answered('put "a" "x"'), ["stamp 1"])
        self.assertEqual(answered('put "a" "x"\nput "b" "y"\nwalk\nask "c"\nwhat'),
                         ["stamp 1", "stamp 2", '"a" "x"', '"b" "y"', "none", "what?"])

    def test_a_line_end_at_its_end(self):
        self.assertEqual(answered('put "a" "x"\n'), ["stamp 1", "what?"])
        self.assertEqual(answered("\n"), ["what?", "what?"])
        self.assertEqual(answered("pour\n\nheld\n\n"), ["poured", "what?", "none", "what?", "what?"])

    def test_width_and_fan(self):
        text = "\n".join(f'put "{key}" "v"' for key in "abcdefgh") + "\nfiles"
        self.assertEqual(answered(text)[8:], ["journal", "run0000001", "tiers"])
        self.assertEqual(answered(text, 3)[8:], ["journal", "run0000001", "run0000002", "tiers"])
        self.assertEqual(answered(text, 4, 2)[8:], ["journal", "run0000003", "tiers"])
        self.assertEqual(answered(text, 9, 2)[8:], ["journal"])

    def test_width_and_fan_left_out(self):
        rows = [f'put "k{number}" "v"' for number in range(24)]
        self.assertEqual(answered("\n".join(rows[:7] + ["files"]))[7:], ["journal"])
        told = ["journal", "run0000001", "run0000002", "tiers"]
        self.assertEqual(answered("\n".join(rows[:23] + ["files"]))[23:], told)
        self.assertEqual(answered("\n".join(rows + ["files"]))[24:], ["journal", "run0000004", "tiers"])

    def test_each_time_a_new_desk(self):
        self.assertEqual([answered('put "a" "x"\nwalk') for time in range(2)], [["stamp 1", '"a" "x"']] * 2)


class Beneath:
    """What a desk is to answer, by a store and a disk of its own."""

    def __init__(self, width, fan):
        self.width, self.fan = width, fan
        self.disk = Disk()
        self.store = Store(self.disk, width, fan)

    def told(self, call):
        word, store = call[0], self.store
        if word == "files":
            return self.disk.names() or ["none"]
        if word == "rise":
            self.disk = Disk(self.disk.files())
            self.store = risen(self.disk, self.width, self.fan)
            last = self.store.snapshot()
            self.store.release(last)
            return [f"up {last}"]
        if word == "stop":
            if self.disk.has_stopped():
                return ["stopped"]
            self.disk.stop_in(*call[1:])
            return ["stops"]
        try:
            answer = getattr(store, word)(*call[1:])
        except Stopped:
            return ["stopped"]
        except NoSnapshot:
            return ["refused: snapshot"]
        if word in ["put", "drop", "both", "snapshot"]:
            return [f"stamp {answer}"]
        if word == "ask":
            return ["none"] if answer is None else [f"value {quoted(answer)}"]
        if word == "walk":
            return [f"{quoted(key)} {quoted(value)}" for key, value in answer] or ["none"]
        if word == "held":
            return ["held " + " ".join(map(str, answer))] if answer else ["none"]
        if word == "road":
            return [f"{name} {told}" for name, told in answer]
        return {"release": ["released"], "pour": ["poured"]}[word]


class AllTogether(unittest.TestCase):
    KEYS = ["a", "b", '"', " , ", "at 0", "put"]

    def deed_and_row(self, chance, number):
        key = chance.choice(self.KEYS)
        if chance.random() < 0.6:
            value = chance.choice(["", '"', " , drop ", "v"]) + str(number)
            return ("put", key, value), f"put {quoted(key)} {quoted(value)}"
        return ("drop", key), f"drop {quoted(key)}"

    def call_and_row(self, chance, number):
        others = ["ask", "walk", "road", "snapshot", "release", "held", "pour", "files", "stop", "rise", "rise"]
        word = chance.choice(["deed"] * 8 + ["both"] * 3 + others)
        key, at = chance.choice(self.KEYS), chance.choice([None, None, 0, 1, 2, 5, 9])
        behind = "" if at is None else f" at {at}"
        if word == "deed":
            return self.deed_and_row(chance, number)
        if word == "both":
            pairs = [self.deed_and_row(chance, number) for each in range(chance.randint(1, 4))]
            return ("both", [deed for deed, row in pairs]), "both " + " , ".join(row for deed, row in pairs)
        if word in ["ask", "road"]:
            return (word, key, at), f"{word} {quoted(key)}{behind}"
        if word == "walk":
            low, high = chance.choice(self.KEYS + [""]), chance.choice(self.KEYS + [None])
            row = "walk" + (f" from {quoted(low)}" if low else "") + (f" below {quoted(high)}" if high else "")
            return ("walk", low, high, at), row + behind
        if word == "release":
            return ("release", at or 0), f"release {at or 0}"
        if word == "stop":
            many, torn = chance.randint(0, 9), chance.choice([None, 0, 5, 19, 30, 99])
            return ("stop", many, torn or 0), f"stop {many}" + ("" if torn is None else f" torn {torn}")
        return (word,), word

    def test_rows_as_they_come(self):
        chance = random.Random(82)
        told = []
        for case in range(250):
            width, fan = chance.choice([1, 2, 3, 8]), chance.choice([2, 3])
            desk, beneath, rows, all_answers = Desk(width, fan), Beneath(width, fan), [], []
            for number in range(50):
                call, row = self.call_and_row(chance, number)
                wanted = beneath.told(call)
                self.assertEqual(desk.say(row), wanted, row)
                self.assertEqual(desk.its_disk().files(), beneath.disk.files())
                rows.append(row)
                all_answers += wanted
            self.assertEqual(answered("\n".join(rows), width, fan), all_answers)
            told += all_answers
        words = {answer.split(" ")[0] for answer in told}
        wanted = "stamp value none held released poured stops stopped up refused: hand run0000001 journal"
        self.assertEqual([word for word in wanted.split(" ") if word not in words], [])


if __name__ == "__main__":
    unittest.main()
