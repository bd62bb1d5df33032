"""Pouring: rows of entries into one, without what nobody can see any more."""

from tierstore.keys import in_order


def merged(rows):
    entries = []
    for row in rows:
        entries.extend(row)
    return in_order(entries)


def seen(entries, stamps):
    told = []
    above = None
    for entry in entries:
        if above is None or any([entry[1] <= stamp < above for stamp in stamps]):
            told.append(entry)
        above = entry[1]
    return told


def by_keys(entries):
    groups = []
    for entry in entries:
        if len(groups) == 0 or groups[-1][0][0] != entry[0]:
            groups.append([])
        groups[-1].append(entry)
    return groups


def up_to_the_last_value(entries):
    many = len(entries)
    while many > 0 and entries[many - 1][2] is None:
        many = many - 1
    return entries[:many]


def poured(rows, stamps, lowest):
    told = []
    for entries in by_keys(merged(rows)):
        left = seen(entries, stamps)
        if lowest:
            left = up_to_the_last_value(left)
        told.extend(left)
    return told
