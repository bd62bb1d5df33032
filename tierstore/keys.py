"""What keys, values, stamps, entries and deeds are, and how entries stand."""

LOWEST_SIGN = " "
HIGHEST_SIGN = "~"
LONGEST_KEY = 20
LONGEST_VALUE = 40
GREATEST_STAMP = 999999999
MOST_DEEDS = 20


def is_plain_text(thing, fewest, most):
    if not isinstance(thing, str):
        return False
    if len(thing) < fewest or len(thing) > most:
        return False
    return all([LOWEST_SIGN <= sign <= HIGHEST_SIGN for sign in thing])


def is_key(thing):
    return is_plain_text(thing, 1, LONGEST_KEY)


def is_value(thing):
    return is_plain_text(thing, 0, LONGEST_VALUE)


def is_whole_number(thing):
    # To Python True and False are whole numbers, to the store they are none.
    return isinstance(thing, int) and not isinstance(thing, bool)


def is_stamp(thing):
    return is_whole_number(thing) and 1 <= thing <= GREATEST_STAMP


def is_entry(thing):
    if not isinstance(thing, tuple) or len(thing) != 3:
        return False
    if not is_key(thing[0]) or not is_stamp(thing[1]):
        return False
    return thing[2] is None or is_value(thing[2])


def is_word(thing, word):
    # The kind is asked first, as a thing of another kind may compare as it likes.
    return isinstance(thing, str) and thing == word


def is_deed(thing):
    if not isinstance(thing, tuple):
        return False
    if len(thing) == 3:
        return is_word(thing[0], "put") and is_key(thing[1]) and is_value(thing[2])
    if len(thing) == 2:
        return is_word(thing[0], "drop") and is_key(thing[1])
    return False


def are_deeds(thing):
    if not isinstance(thing, list) or len(thing) < 1 or len(thing) > MOST_DEEDS:
        return False
    return all([is_deed(deed) for deed in thing])


def rank_of(entry):
    # With the stamp below nought, the greater one of a key is the lesser rank.
    return (entry[0], -entry[1])


def comes_ahead(one, other):
    return rank_of(one) < rank_of(other)


def in_order(entries):
    return sorted(entries, key=rank_of)


def stretch(entries, low, high):
    return [entry for entry in entries if low <= entry[0] and (high is None or entry[0] < high)]


def newest(entries, key, stamp):
    found = None
    for entry in entries:
        if entry[0] == key and entry[1] <= stamp:
            if found is None or entry[1] > found[1]:
                found = entry
    return found
