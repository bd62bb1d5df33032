"""The store: deeds behind a journal, a table in hand, and runs in tiers."""

from tierstore.disks import refuse_a_stopped_one
from tierstore.errors import BadDeed, BadKey, BadValue, NoSnapshot
from tierstore.hands import Hand, put_deeds
from tierstore.journals import JOURNAL_NAME, record
from tierstore.keys import GREATEST_STAMP, are_deeds, is_key, is_value, is_whole_number, newest
from tierstore.parts import InHand, InRun
from tierstore.pouring import by_keys, merged, poured
from tierstore.runfiles import run_text
from tierstore.runs import run_of
from tierstore.tiers import NO_TIERS, TIERS_NAME, name_of, tiers_text


def refuse_no_key(key):
    if not is_key(key):
        raise BadKey("the key is no text of 1 to 20 plain signs")


def bound_of(at):
    # Now has no bound: whatever was put is seen.
    return GREATEST_STAMP if at is None else at


def word_of(part, key, stamp):
    if not part.says(key):
        return "sieve"
    return "none" if part.find(key, stamp) is None else "there"


class Store:
    def __init__(self, disk, width=8, fan=3):
        self.disk = disk
        self.width = width
        self.fan = fan
        self.hand = Hand()
        self.runs = {}
        self.fresh = NO_TIERS[0]
        self.last_poured = NO_TIERS[1]
        self.layers = NO_TIERS[2]
        self.last = 0
        self.holds = []

    def put(self, key, value):
        refuse_a_stopped_one(self.disk)
        refuse_no_key(key)
        if not is_value(value):
            raise BadValue("the value is no text of 0 to 40 plain signs")
        return self.do_at_once([("put", key, value)])

    def drop(self, key):
        refuse_a_stopped_one(self.disk)
        refuse_no_key(key)
        return self.do_at_once([("drop", key)])

    def both(self, deeds):
        refuse_a_stopped_one(self.disk)
        if not are_deeds(deeds):
            raise BadDeed("the deeds are no list of 1 to 20 deeds")
        return self.do_at_once(deeds)

    def pour(self):
        refuse_a_stopped_one(self.disk)
        if self.hand.many() > 0:
            self.pour_all()

    def ask(self, key, at=None):
        refuse_a_stopped_one(self.disk)
        refuse_no_key(key)
        self.refuse_no_snapshot(at)
        found = [part.find(key, bound_of(at)) for part in self.parts()]
        entry = newest([one for one in found if one is not None], key, bound_of(at))
        return None if entry is None else entry[2]

    def walk(self, low="", high=None, at=None):
        refuse_a_stopped_one(self.disk)
        self.refuse_no_snapshot(at)
        pairs = []
        for entries in by_keys(merged([part.between(low, high) for part in self.parts()])):
            entry = newest(entries, entries[0][0], bound_of(at))
            if entry is not None and entry[2] is not None:
                pairs.append((entry[0], entry[2]))
        return pairs

    def road(self, key, at=None):
        refuse_a_stopped_one(self.disk)
        refuse_no_key(key)
        self.refuse_no_snapshot(at)
        return [(part.called(), word_of(part, key, bound_of(at))) for part in self.parts()]

    def snapshot(self):
        refuse_a_stopped_one(self.disk)
        self.holds.append(self.last)
        return self.last

    def release(self, at):
        refuse_a_stopped_one(self.disk)
        self.refuse_what_is_not_held(at)
        self.holds.remove(at)

    def held(self):
        refuse_a_stopped_one(self.disk)
        return sorted(self.holds)

    def tiers(self):
        refuse_a_stopped_one(self.disk)
        return (self.fresh, self.last_poured, self.layers)

    def many(self):
        refuse_a_stopped_one(self.disk)
        return sum([len(part.between("", None)) for part in self.parts()])

    def parts(self):
        told = [InHand(self.hand)]
        for numbers in self.layers:
            told.extend([InRun(number, self.runs[number]) for number in numbers])
        return told

    def refuse_no_snapshot(self, at):
        if at is not None:
            self.refuse_what_is_not_held(at)

    def refuse_what_is_not_held(self, at):
        # The kind is asked first, as to Python True is like 1.
        if not is_whole_number(at) or at not in self.holds:
            raise NoSnapshot(at)

    def do_at_once(self, deeds):
        stamp = self.last + 1
        self.disk.lengthen(JOURNAL_NAME, record(stamp, deeds))
        put_deeds(self.hand, stamp, deeds)
        self.last = stamp
        if self.hand.many() >= self.width:
            self.pour_all()
        return stamp

    def pour_all(self):
        self.pour_the_hand()
        if len(self.layers[0]) >= self.fan:
            self.pour_down(0)
        if self.many_in_tier(1) > self.width * self.fan * self.fan:
            self.pour_down(1)

    def many_in_tier(self, tier):
        return sum([len(self.runs[number][1]) for number in self.layers[tier]])

    def pour_the_hand(self):
        numbers = self.new_run([self.hand.rows()], self.has_none_from(0))
        self.layers = (numbers + self.layers[0],) + self.layers[1:]
        self.last_poured = self.last
        self.write_tiers()
        # Only now: until the tiers tell of the new run, the journal alone keeps what it has.
        self.disk.write(JOURNAL_NAME, "")
        self.hand.clear()

    def pour_down(self, tier):
        old = sorted(self.layers[tier] + self.layers[tier + 1])
        rows = [list(self.runs[number][1]) for number in old]
        numbers = self.new_run(rows, self.has_none_from(tier + 2))
        self.layers = self.layers[:tier] + ((), numbers) + self.layers[tier + 2:]
        self.write_tiers()
        for number in old:
            self.disk.take_off(name_of(number))
            self.runs.pop(number)

    def has_none_from(self, tier):
        return all([len(numbers) == 0 for numbers in self.layers[tier:]])

    def new_run(self, rows, lowest):
        entries = poured(rows, sorted(set(self.holds)), lowest)
        if len(entries) == 0:
            return ()
        number = self.fresh
        run = run_of(entries)
        self.disk.write(name_of(number), run_text(run))
        self.runs[number] = run
        self.fresh = number + 1
        return (number,)

    def write_tiers(self):
        self.disk.write(TIERS_NAME, tiers_text(self.tiers()))


def on(disk, tiers, runs, hand, last, width, fan):
    store = Store(disk, width, fan)
    store.fresh = tiers[0]
    store.last_poured = tiers[1]
    store.layers = tiers[2]
    store.runs = dict(runs)
    store.hand = hand
    store.last = last
    return store
