"""Runs: entries in order, with the sieve of their keys ahead."""

from tierstore.keys import comes_ahead, in_order, is_entry, is_whole_number, newest, stretch
from tierstore.sieves import may_have, sieve_of


def sieve_of_entries(entries):
    return sieve_of([entry[0] for entry in entries])


def run_of(entries):
    ordered = tuple(in_order(entries))
    return (sieve_of_entries(ordered), ordered)


def are_entries_of_a_run(thing):
    if not isinstance(thing, tuple) or len(thing) == 0:
        return False
    if not all([is_entry(entry) for entry in thing]):
        return False
    return all([comes_ahead(thing[place], thing[place + 1]) for place in range(len(thing) - 1)])


def is_pair(thing):
    return isinstance(thing, tuple) and len(thing) == 2


def is_run(thing):
    if not is_pair(thing) or not are_entries_of_a_run(thing[1]):
        return False
    sieve = thing[0]
    # The kinds are asked first, as to Python True is like 1.
    if not is_pair(sieve) or not is_whole_number(sieve[0]) or not is_whole_number(sieve[1]):
        return False
    return sieve == sieve_of_entries(thing[1])


def find(run, key, stamp):
    if not may_have(run[0], key):
        return None
    return newest(run[1], key, stamp)


def between(run, low, high):
    return stretch(run[1], low, high)
