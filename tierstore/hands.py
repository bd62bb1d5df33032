"""The table in hand: entries that are in no run yet."""

from tierstore.keys import in_order, newest, stretch


def put_deeds(hand, stamp, deeds):
    for deed in deeds:
        value = deed[2] if deed[0] == "put" else None
        hand.put(deed[1], stamp, value)


class Hand:
    def __init__(self):
        # By keys, then by stamps, so that a key is found without a walk through all.
        self.kept = {}

    def put(self, key, stamp, value):
        if key not in self.kept:
            self.kept[key] = {}
        self.kept[key][stamp] = (key, stamp, value)

    def find(self, key, stamp):
        if key not in self.kept:
            return None
        return newest(list(self.kept[key].values()), key, stamp)

    def many(self):
        return sum([len(own) for own in self.kept.values()])

    def greatest(self):
        return max([max(own.keys()) for own in self.kept.values()], default=0)

    def rows(self):
        entries = []
        for own in self.kept.values():
            entries.extend(list(own.values()))
        return in_order(entries)

    def between(self, low="", high=None):
        return stretch(self.rows(), low, high)

    def clear(self):
        self.kept = {}
