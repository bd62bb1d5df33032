"""The texts of runs: how they are written, and how they are read."""

from tierstore.errors import BadRun, BadSieve
from tierstore.figures import read_figures
from tierstore.keys import GREATEST_STAMP, comes_ahead, is_entry
from tierstore.rows import key_and_rest, read_key_and_rest, row_at, rows_of, text_of_rows
from tierstore.runs import sieve_of_entries
from tierstore.sieves import read_sieve, sieve_text

FIRST_NUMBER = 7
FACTOR = 31
MODULUS = 9973
MOST_ENTRIES = 9999
HEAD_LINE = 1
SIEVE_LINE = 2
FIRST_ENTRY_LINE = 3


def check_of(text):
    number = FIRST_NUMBER
    for sign in text:
        number = (number * FACTOR + ord(sign)) % MODULUS
    return number


def entry_row(entry):
    stamp = entry[1]
    if entry[2] is None:
        return f"{stamp} - " + key_and_rest(entry[0], "")
    return f"{stamp} + " + key_and_rest(entry[0], entry[2])


def end_row(ahead):
    check = check_of(ahead)
    return f"end {check}"


def run_text(run):
    many = len(run[1])
    rows = [f"run {many}", sieve_text(run[0])] + [entry_row(entry) for entry in run[1]]
    ahead = text_of_rows(rows)
    return ahead + text_of_rows([end_row(ahead)])


def read_head(row):
    many = None
    if row.startswith("run "):
        many = read_figures(row[4:], 1, MOST_ENTRIES)
    if many is None:
        raise BadRun(HEAD_LINE)
    return many


def read_sieve_row(row):
    try:
        return read_sieve(row)
    except BadSieve:
        raise BadRun(SIEVE_LINE) from None


def read_entry(row):
    parts = row.partition(" ")
    stamp = read_figures(parts[0], 1, GREATEST_STAMP)
    sign = parts[2][:2]
    pair = read_key_and_rest(parts[2][2:])
    if stamp is None or pair is None:
        return None
    entry = None
    if sign == "+ ":
        entry = (pair[0], stamp, pair[1])
    if sign == "- " and pair[1] == "":
        entry = (pair[0], stamp, None)
    return entry if is_entry(entry) else None


def read_entries(rows, many):
    entries = []
    for line in range(FIRST_ENTRY_LINE, FIRST_ENTRY_LINE + many):
        entry = read_entry(row_at(rows, line))
        if entry is None:
            raise BadRun(line)
        if len(entries) > 0 and not comes_ahead(entries[-1], entry):
            raise BadRun(line)
        entries.append(entry)
    return tuple(entries)


def check_end(text, rows, line):
    ahead = text_of_rows(rows[:line - 1])
    whole = ahead + text_of_rows([end_row(ahead)])
    if not text.startswith(whole):
        raise BadRun(line)
    if text != whole:
        raise BadRun(line + 1)


def read_run(text):
    rows = rows_of(text)
    many = read_head(row_at(rows, HEAD_LINE))
    sieve = read_sieve_row(row_at(rows, SIEVE_LINE))
    entries = read_entries(rows, many)
    check_end(text, rows, FIRST_ENTRY_LINE + many)
    if sieve != sieve_of_entries(entries):
        raise BadRun(SIEVE_LINE)
    return (sieve, entries)
