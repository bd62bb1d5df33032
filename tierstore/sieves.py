"""Sieves: which keys may be there, told by a few bits, and their texts."""

from tierstore.errors import BadSieve

FACTORS = (31, 37, 41)
FIRST_NUMBER = 7
MODULUS = 1000003
FIGURES = "0123456789"
SIGNS = "abcdefghijklmnop"
# Six figures bound the size by themselves: their greatest multiple of 8 is 999992.
MOST_FIGURES = 6


def probe(factor):
    def place_of(key, size):
        number = FIRST_NUMBER
        for sign in key:
            number = (number * factor + ord(sign)) % MODULUS
        return number % size
    return place_of


def places_of(key, size):
    return [probe(factor)(key, size) for factor in FACTORS]


def sieve_of(keys):
    size = 8 * max(1, len(set(keys)))
    bits = 0
    for key in keys:
        for place in places_of(key, size):
            bits = bits | (1 << place)
    return (size, bits)


def may_have(sieve, key):
    bits = sieve[1]
    return all([(bits >> place) & 1 == 1 for place in places_of(key, sieve[0])])


def signs_of(bits, many):
    # By halves, as sign by sign would go along the whole number for each sign.
    if many == 1:
        return SIGNS[bits]
    half = many // 2
    high = bits >> (4 * half)
    low = bits - (high << (4 * half))
    return signs_of(low, half) + signs_of(high, many - half)


def bits_of(signs):
    # By halves, for the same cause as in signs_of.
    if len(signs) == 1:
        return SIGNS.index(signs)
    half = len(signs) // 2
    return bits_of(signs[:half]) + (bits_of(signs[half:]) << (4 * half))


def sieve_text(sieve):
    size = sieve[0]
    return f"{size}:" + signs_of(sieve[1], size // 4)


def read_size(figures):
    if figures == "" or not all([figure in FIGURES for figure in figures]):
        raise BadSieve("the size is not written in figures")
    if figures[0] == "0":
        raise BadSieve("the size is 0 or has a nought ahead")
    if len(figures) > MOST_FIGURES:
        raise BadSieve("the size is above 999992")
    size = int(figures)
    if size % 8 != 0:
        raise BadSieve("the size is no multiple of 8")
    return size


def read_sieve(text):
    # A second colon stays among the signs, and is refused as none of them.
    parts = text.partition(":")
    size = read_size(parts[0])
    signs = parts[2]
    if len(signs) != size // 4:
        raise BadSieve("there are more or fewer signs than the size asks")
    if not all([sign in SIGNS for sign in signs]):
        raise BadSieve("there is a sign that is none from a to p")
    return (size, bits_of(signs))
