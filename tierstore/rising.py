"""Coming up: the store that lies on a disk."""

from tierstore.disks import refuse_a_stopped_one
from tierstore.errors import BadFile, BadJournal, BadRun, BadTiers
from tierstore.hands import Hand, put_deeds
from tierstore.journals import JOURNAL_NAME, read_whole
from tierstore.runfiles import read_run
from tierstore.stores import on
from tierstore.tiers import NO_TIERS, TIERS_NAME, name_of, numbers_of, read_tiers


def tiers_on(disk):
    if not disk.has(TIERS_NAME):
        return NO_TIERS
    try:
        return read_tiers(disk.text(TIERS_NAME))
    except BadTiers:
        raise BadFile(TIERS_NAME) from None


def run_on(disk, name):
    if not disk.has(name):
        raise BadFile(name)
    try:
        return read_run(disk.text(name))
    except BadRun:
        raise BadFile(name) from None


def runs_on(disk, tiers):
    runs = {}
    for number in numbers_of(tiers):
        runs[number] = run_on(disk, name_of(number))
    return runs


def journal_on(disk):
    return disk.text(JOURNAL_NAME) if disk.has(JOURNAL_NAME) else ""


def records_and_end(journal):
    try:
        return read_whole(journal)
    except BadJournal:
        raise BadFile(JOURNAL_NAME) from None


def hand_of(records, last_poured):
    hand = Hand()
    for pair in records:
        # What is poured already lies in a run, where a stop came ahead of the emptying of the journal.
        if pair[0] > last_poured:
            put_deeds(hand, pair[0], pair[1])
    return hand


def take_off_all_but(disk, names):
    for name in disk.names():
        if name not in names:
            disk.take_off(name)


def risen(disk, width=8, fan=3):
    refuse_a_stopped_one(disk)
    tiers = tiers_on(disk)
    runs = runs_on(disk, tiers)
    journal = journal_on(disk)
    pair = records_and_end(journal)
    records = pair[0]
    end = pair[1]
    take_off_all_but(disk, [TIERS_NAME, JOURNAL_NAME] + [name_of(number) for number in runs])
    if end < len(journal):
        disk.write(JOURNAL_NAME, journal[:end])
    last = max([tiers[1]] + [one[0] for one in records])
    return on(disk, tiers, runs, hand_of(records, tiers[1]), last, width, fan)
