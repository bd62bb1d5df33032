"""What the tests hold a store against: a plain dict, and each step that a store is to take, in plain lists."""

from tierstore.disks import Disk
from tierstore.journals import record
from tierstore.runfiles import run_text
from tierstore.runs import run_of
from tierstore.tiers import tiers_text


class NotedDisk(Disk):
    """A disk that notes each step that is done."""

    def __init__(self, *arguments):
        Disk.__init__(self, *arguments)
        self.noted = []

    def write(self, name, text):
        Disk.write(self, name, text)
        self.noted.append(("write", name, text))

    def lengthen(self, name, text):
        Disk.lengthen(self, name, text)
        self.noted.append(("lengthen", name, text))

    def take_off(self, name):
        Disk.take_off(self, name)
        self.noted.append(("take off", name))


class Plain:
    """The deeds that were told, and a plain dict to which they are done."""

    def __init__(self, told=()):
        self.told = list(told)

    def tell(self, deeds):
        self.told.append((len(self.told) + 1, list(deeds)))
        return len(self.told)

    def as_dict(self, at=None):
        kept = {}
        for stamp, deeds in self.told:
            if at is None or stamp <= at:
                for deed in deeds:
                    kept.pop(deed[1], None)
                    if deed[0] == "put":
                        kept[deed[1]] = deed[2]
        return kept

    def pairs(self, low="", high=None, at=None):
        return [pair for pair in sorted(self.as_dict(at).items())
                if pair[0] >= low and (high is None or pair[0] < high)]


def seen_entries(entries, held, lowest):
    """What is to be left of entries that are poured, by the stamps at which somebody may ask."""
    left = []
    for key in {entry[0] for entry in entries}:
        own = [entry for entry in entries if entry[0] == key]
        told = set()
        for at in list(held) + [10 ** 9]:
            found = [entry for entry in own if entry[1] <= at]
            if found:
                told.add(max(found, key=lambda entry: entry[1]))
        told = sorted(told, key=lambda entry: entry[1])
        while lowest and told and told[0][2] is None:
            told.pop(0)
        left += told
    return left


class Model:
    """What a store has and which steps it takes, kept as plainly as can be."""

    def __init__(self, width, fan):
        self.width, self.fan = width, fan
        self.hand, self.runs = {}, {}
        self.rows = [[], [], []]
        self.fresh, self.poured, self.last = 1, 0, 0
        self.held = []
        self.steps = []

    def tiers(self):
        return (self.fresh, self.poured, tuple(tuple(row) for row in self.rows))

    def many(self):
        return len(self.hand) + sum(len(entries) for entries in self.runs.values())

    def tell(self, deeds):
        self.last += 1
        self.steps.append(("lengthen", "journal", record(self.last, deeds)))
        for deed in deeds:
            self.hand[(deed[1], self.last)] = deed[2] if deed[0] == "put" else None
        if len(self.hand) >= self.width:
            self.pour()
        return self.last

    def pour(self):
        if not self.hand:
            return
        entries = [(key, stamp, value) for (key, stamp), value in self.hand.items()]
        self.rows[0] = self.new_run(entries, self.rows == [[], [], []]) + self.rows[0]
        self.poured = self.last
        self.steps.append(("write", "tiers", tiers_text(self.tiers())))
        self.steps.append(("write", "journal", ""))
        self.hand = {}
        if len(self.rows[0]) >= self.fan:
            self.pour_together(0, self.rows[2] == [])
        if self.rows[1] and len(self.runs[self.rows[1][0]]) > self.width * self.fan ** 2:
            self.pour_together(1, True)

    def pour_together(self, tier, lowest):
        numbers = sorted(self.rows[tier] + self.rows[tier + 1])
        entries = [entry for number in numbers for entry in self.runs[number]]
        self.rows[tier + 1] = self.new_run(entries, lowest)
        self.rows[tier] = []
        self.steps.append(("write", "tiers", tiers_text(self.tiers())))
        for number in numbers:
            self.runs.pop(number)
            self.steps.append(("take off", f"run{number:07}"))

    def new_run(self, entries, lowest):
        left = seen_entries(entries, self.held, lowest)
        if not left:
            return []
        self.runs[self.fresh] = left
        self.steps.append(("write", f"run{self.fresh:07}", run_text(run_of(left))))
        self.fresh += 1
        return [self.fresh - 1]

    def parts(self):
        """The names of the parts, in order, each with its entries."""
        hand = [(key, stamp, value) for (key, stamp), value in self.hand.items()]
        return [("hand", hand)] + [(f"run{number:07}", self.runs[number]) for row in self.rows for number in row]


def check_answers(case, store, plain, keys, ats):
    """Each answer of a store that plain has, of keys and of the stretches between them, at each of some stamps."""
    for at in ats:
        kept = plain.as_dict(at)
        case.assertEqual(store.walk("", None, at), plain.pairs("", None, at))
        for key in keys:
            case.assertEqual(store.ask(key, at), kept.get(key))
            case.assertEqual(store.walk(key, None, at), plain.pairs(key, None, at))
            case.assertEqual(store.walk("", key, at), plain.pairs("", key, at))
            if key in kept:
                case.assertIn("there", [word for name, word in store.road(key, at)])
