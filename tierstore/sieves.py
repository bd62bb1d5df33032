"""Sieves: which keys may be there, told by a few bits, and their texts."""

from tierstore.errors import BadSieve
from tierstore.figures import read_figures

FACTORS = (31, 37, 41)
FIRST_NUMBER = 7
MODULUS = 1000003
SIGNS = "abcdefghijklmnop"
GREATEST_SIZE = 999992


def probe(factor):
    def place_of(key, size):
        number = FIRST_NUMBER
        for sign in key:
            number = (number * factor + ord(sign)) % MODULUS
        return number % size
    return place_of


def places_of(key, size):
    return [probe(factor)(key, size) for factor in FACTORS]


def sieve_of(keys):
    size = 8 * max(1, len(set(keys)))
    bits = 0
    for key in keys:
        for place in places_of(key, size):
            bits = bits | (1 << place)
    return (size, bits)


def may_have(sieve, key):
    bits = sieve[1]
    return all([(bits >> place) & 1 == 1 for place in places_of(key, sieve[0])])


def signs_of(bits, many):
    # By halves, as sign by sign would go along the whole number for each sign.
    if many == 1:
        return SIGNS[bits]
    half = many // 2
    high = bits >> (4 * half)
    low = bits - (high << (4 * half))
    return signs_of(low, half) + signs_of(high, many - half)


def bits_of(signs):
    # By halves, for the same cause as in signs_of.
    if len(signs) == 1:
        return SIGNS.index(signs)
    half = len(signs) // 2
    return bits_of(signs[:half]) + (bits_of(signs[half:]) << (4 * half))


def sieve_text(sieve):
    size = sieve[0]
    return f"{size}:" + signs_of(sieve[1], size // 4)


def read_size(text):
    size = read_figures(text, 8, GREATEST_SIZE)
    if size is None:
        raise BadSieve("the size is no number from 8 to 999992 in figures")
    if size % 8 != 0:
        raise BadSieve("the size is no multiple of 8")
    return size


def read_sieve(text):
    # A second colon stays among the signs, and is refused as none of them.
    parts = text.partition(":")
    size = read_size(parts[0])
    signs = parts[2]
    if len(signs) != size // 4:
        raise BadSieve("there are more or fewer signs than the size asks")
    if not all([sign in SIGNS for sign in signs]):
        raise BadSieve("there is a sign that is none from a to p")
    return (size, bits_of(signs))
