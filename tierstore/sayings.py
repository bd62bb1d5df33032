"""The rows that are said to a desk: how they are read, and how texts stand in quotes."""

from tierstore.figures import read_figures

QUOTE = '"'
BOTH = (False, "both")
PARTING = (False, ",")
GREATEST_FIGURES = 999999999
IN_QUOTES = ("KEY", "VALUE", "LOW", "HIGH")
IN_FIGURES = ("STAMP", "N", "T")
DEED_FORMS = ("put KEY VALUE", "drop KEY")
FORMS = (
    "put KEY VALUE", "drop KEY", "ask KEY", "ask KEY at STAMP",
    "walk", "walk from LOW", "walk below HIGH", "walk from LOW below HIGH",
    "walk at STAMP", "walk from LOW at STAMP", "walk below HIGH at STAMP", "walk from LOW below HIGH at STAMP",
    "snapshot", "release STAMP", "held", "road KEY", "road KEY at STAMP",
    "pour", "files", "stop N", "stop N torn T", "rise",
)


def in_quotes(text):
    return QUOTE + text.replace(QUOTE, QUOTE + QUOTE) + QUOTE


def end_of_quotes(row, place):
    # Of two quotes side by side neither ends the text.
    end = row.find(QUOTE, place + 1)
    while end >= 0 and row[end + 1:end + 2] == QUOTE:
        end = row.find(QUOTE, end + 2)
    return end


def read_word(row, place):
    # A word is told with whether it stood in quotes, so that a text is never taken for a word of a row.
    if row[place:place + 1] != QUOTE:
        end = row.find(" ", place)
        end = len(row) if end < 0 else end
        return ((False, row[place:end]), end)
    end = end_of_quotes(row, place)
    if end < 0:
        return None
    return ((True, row[place + 1:end].replace(QUOTE + QUOTE, QUOTE)), end + 1)


def words_of(row):
    words = []
    place = 0
    while place <= len(row):
        pair = read_word(row, place)
        if pair is None:
            return None
        words.append(pair[0])
        end = pair[1]
        if end < len(row) and row[end] != " ":
            return None
        place = end + 1
    return words


def read_slot(slot, word):
    if slot in IN_QUOTES:
        return word[1] if word[0] else None
    if word[0]:
        return None
    if slot in IN_FIGURES:
        return read_figures(word[1], 0, GREATEST_FIGURES)
    return word[1] if word[1] == slot else None


def read_by_form(form, words):
    slots = form.split(" ")
    if len(slots) != len(words):
        return None
    said = {}
    for slot, word in zip(slots, words):
        said[slot] = read_slot(slot, word)
        if said[slot] is None:
            return None
    return said


def read_by_forms(forms, words):
    for form in forms:
        said = read_by_form(form, words)
        if said is not None:
            return (words[0][1], said)
    return None


def parted(words):
    groups = [[]]
    for word in words:
        if word == PARTING:
            groups.append([])
        else:
            groups[-1].append(word)
    return groups


def deed_of(word, said):
    return (word, said["KEY"], said["VALUE"]) if word == "put" else (word, said["KEY"])


def read_deeds(words):
    deeds = []
    for group in parted(words):
        pair = read_by_forms(DEED_FORMS, group)
        if pair is None:
            return None
        deeds.append(deed_of(pair[0], pair[1]))
    return deeds


def read_row(row):
    words = words_of(row)
    if words is None:
        return None
    if words[0] != BOTH:
        return read_by_forms(FORMS, words)
    deeds = read_deeds(words[1:])
    return None if deeds is None else ("both", {"DEEDS": deeds})
