"""Records of what was done, and the journal, in which they stand one behind the other."""

from tierstore.errors import BadDeed, BadJournal, BadStamp
from tierstore.figures import padded, read_padded
from tierstore.keys import GREATEST_STAMP, MOST_DEEDS, are_deeds, is_stamp
from tierstore.rows import key_and_rest, read_key_and_rest, rows_of, text_of_rows

JOURNAL_NAME = "journal"
STAMP_FIGURES = 9
MANY_FIGURES = 2
LENGTH_FIGURES = 5
HEAD_LENGTH = 19
GREATEST_LENGTH = 99999


def deed_row(deed):
    if deed[0] == "drop":
        return "g" + key_and_rest(deed[1], "")
    return "p" + key_and_rest(deed[1], deed[2])


def head_row(stamp, many, length):
    numbers = [padded(stamp, STAMP_FIGURES), padded(many, MANY_FIGURES), padded(length, LENGTH_FIGURES)]
    return " ".join(numbers)


def record(stamp, deeds):
    if not is_stamp(stamp):
        raise BadStamp("the stamp is no whole number from 1 to 999999999")
    if not are_deeds(deeds):
        raise BadDeed("the deeds are no list of 1 to 20 deeds")
    body = text_of_rows([deed_row(deed) for deed in deeds])
    return text_of_rows([head_row(stamp, len(deeds), len(body))]) + body


def read_head(head):
    numbers = head[:-1].split(" ")
    if not head.endswith("\n") or len(numbers) != 3:
        return None
    if len(numbers[0]) != STAMP_FIGURES or len(numbers[1]) != MANY_FIGURES:
        return None
    stamp = read_padded(numbers[0], 1, GREATEST_STAMP)
    many = read_padded(numbers[1], 1, MOST_DEEDS)
    length = read_padded(numbers[2], 0, GREATEST_LENGTH)
    if stamp is None or many is None or length is None:
        return None
    return (stamp, many, length)


def read_deed(row):
    pair = read_key_and_rest(row[1:])
    if pair is None:
        return None
    if row.startswith("p"):
        return ("put", pair[0], pair[1])
    if row.startswith("g") and pair[1] == "":
        return ("drop", pair[0])
    return None


def read_body(body, many):
    if not body.endswith("\n"):
        return None
    deeds = [read_deed(row) for row in rows_of(body)]
    return deeds if len(deeds) == many and are_deeds(deeds) else None


def read_whole(text):
    records = []
    place = 0
    while place + HEAD_LENGTH <= len(text):
        behind_head = place + HEAD_LENGTH
        head = read_head(text[place:behind_head])
        # All signs of the head are there, so what is wrong in it was not torn off by a stop.
        if head is None:
            raise BadJournal(place)
        end = behind_head + head[2]
        if end > len(text):
            break
        deeds = read_body(text[behind_head:end], head[1])
        if deeds is None:
            raise BadJournal(place)
        records.append((head[0], deeds))
        place = end
    return (records, place)


def read_journal(text):
    return read_whole(text)[0]


def whole_end(text):
    return read_whole(text)[1]
