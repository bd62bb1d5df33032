"""The texts of runs: how they are written, and how they are read."""

from tierstore.errors import BadRun, BadSieve
from tierstore.figures import are_figures, read_figures
from tierstore.keys import GREATEST_STAMP, comes_ahead, is_entry
from tierstore.runs import sieve_of_entries
from tierstore.sieves import read_sieve, sieve_text

FIRST_NUMBER = 7
FACTOR = 31
MODULUS = 9973
MOST_ENTRIES = 9999
HEAD_LINE = 1
SIEVE_LINE = 2
FIRST_ENTRY_LINE = 3


def check_of(text):
    number = FIRST_NUMBER
    for sign in text:
        number = (number * FACTOR + ord(sign)) % MODULUS
    return number


def text_of_rows(rows):
    return "".join([row + "\n" for row in rows])


def entry_row(entry):
    key = entry[0]
    stamp = entry[1]
    length = str(len(key)).zfill(2)
    if entry[2] is None:
        return f"{stamp} - {length}{key}"
    value = entry[2]
    return f"{stamp} + {length}{key}{value}"


def end_row(ahead):
    check = check_of(ahead)
    return f"end {check}"


def run_text(run):
    many = len(run[1])
    rows = [f"run {many}", sieve_text(run[0])] + [entry_row(entry) for entry in run[1]]
    ahead = text_of_rows(rows)
    return ahead + text_of_rows([end_row(ahead)])


def row_at(rows, line):
    # A row that is not there may pass for an empty one, as that is wrong in each place.
    return rows[line - 1] if line <= len(rows) else ""


def read_head(row):
    many = None
    if row.startswith("run "):
        many = read_figures(row[4:], 1, MOST_ENTRIES)
    if many is None:
        raise BadRun(HEAD_LINE)
    return many


def read_sieve_row(row):
    try:
        return read_sieve(row)
    except BadSieve:
        raise BadRun(SIEVE_LINE) from None


def read_key_and_rest(text):
    if not are_figures(text[:2]):
        return None
    behind = 2 + int(text[:2])
    # A slice beyond the end would pass a length of one figure, and a key that is shorter than told.
    if len(text) < behind:
        return None
    return (text[2:behind], text[behind:])


def read_entry(row):
    parts = row.partition(" ")
    stamp = read_figures(parts[0], 1, GREATEST_STAMP)
    sign = parts[2][:2]
    pair = read_key_and_rest(parts[2][2:])
    if stamp is None or pair is None:
        return None
    entry = None
    if sign == "+ ":
        entry = (pair[0], stamp, pair[1])
    if sign == "- " and pair[1] == "":
        entry = (pair[0], stamp, None)
    return entry if is_entry(entry) else None


def read_entries(rows, many):
    entries = []
    for line in range(FIRST_ENTRY_LINE, FIRST_ENTRY_LINE + many):
        entry = read_entry(row_at(rows, line))
        if entry is None:
            raise BadRun(line)
        if len(entries) > 0 and not comes_ahead(entries[-1], entry):
            raise BadRun(line)
        entries.append(entry)
    return tuple(entries)


def check_end(text, rows, line):
    ahead = text_of_rows(rows[:line - 1])
    whole = ahead + text_of_rows([end_row(ahead)])
    if not text.startswith(whole):
        raise BadRun(line)
    if text != whole:
        raise BadRun(line + 1)


def read_run(text):
    # What stands behind the last line end has none itself, and is no row.
    rows = text.split("\n")[:-1]
    many = read_head(row_at(rows, HEAD_LINE))
    sieve = read_sieve_row(row_at(rows, SIEVE_LINE))
    entries = read_entries(rows, many)
    check_end(text, rows, FIRST_ENTRY_LINE + many)
    if sieve != sieve_of_entries(entries):
        raise BadRun(SIEVE_LINE)
    return (sieve, entries)
