"""The tiers, which tell where the runs stand: how they are written and read, and the names of the runs' files."""

from tierstore.errors import BadTiers
from tierstore.figures import padded, read_figures
from tierstore.keys import GREATEST_STAMP
from tierstore.rows import row_at, rows_of, text_of_rows

TIERS_NAME = "tiers"
NO_TIERS = (1, 0, ((), (), ()))
GREATEST_NUMBER = 9999999
NAME_FIGURES = 7
FRESH_LINE = 1
POURED_LINE = 2
FIRST_TIER_LINE = 3
LAST_LINE = 5


def name_of(number):
    return "run" + padded(number, NAME_FIGURES)


def numbers_of(tiers):
    numbers = []
    for row in tiers[2]:
        numbers.extend(row)
    return sorted(numbers)


def tier_row(numbers):
    return " ".join(["tier"] + [str(number) for number in numbers])


def tiers_text(tiers):
    fresh = tiers[0]
    poured = tiers[1]
    return text_of_rows([f"fresh {fresh}", f"poured {poured}"] + [tier_row(row) for row in tiers[2]])


def read_number(rows, line, ahead, least, most):
    row = row_at(rows, line)
    number = None
    if row.startswith(ahead):
        number = read_figures(row[len(ahead):], least, most)
    if number is None:
        raise BadTiers(line)
    return number


def read_tier(row, fresh):
    words = row.split(" ")
    numbers = [read_figures(word, 1, fresh - 1) for word in words[1:]]
    return numbers if words[0] == "tier" and None not in numbers else None


def are_unlike(numbers):
    return len(set(numbers)) == len(numbers)


def read_all_tiers(rows, fresh):
    told = []
    stood_ahead = []
    for line in range(FIRST_TIER_LINE, LAST_LINE + 1):
        numbers = read_tier(row_at(rows, line), fresh)
        if numbers is None or not are_unlike(stood_ahead + numbers):
            raise BadTiers(line)
        if line > FIRST_TIER_LINE and len(numbers) > 1:
            raise BadTiers(line)
        told.append(tuple(numbers))
        stood_ahead.extend(numbers)
    return tuple(told)


def read_tiers(text):
    rows = rows_of(text)
    fresh = read_number(rows, FRESH_LINE, "fresh ", 1, GREATEST_NUMBER)
    poured = read_number(rows, POURED_LINE, "poured ", 0, GREATEST_STAMP)
    told = read_all_tiers(rows, fresh)
    if text != text_of_rows(rows[:LAST_LINE]):
        raise BadTiers(LAST_LINE + 1)
    return (fresh, poured, told)
