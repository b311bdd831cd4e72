"""Small numbers (promise 19), and rows of them, for the tests."""

import math

from search import has_zero_at

GREAT = 2 ** 30
PLACES = (0, 2, 3, 5, 7, 11, 13)


def numbers_of(primes):
    found = [1, -1]
    for p in primes:
        found += [k * p for k in found]
    return sorted(found, key=abs)


# All 128 that are free of squares.
SMALL_FREE = numbers_of(PLACES[1:])


def with_great_square(k):
    """k times the greatest square that leaves it below 2 to the 30."""
    root = math.isqrt((GREAT - 1) // abs(k))
    return k * root * root


def small_rows(source, count, length, numbers=SMALL_FREE, square=1):
    """Rows of so many numbers; each is multiplied with a square of a number up to the last argument."""
    return [[source.chosen(numbers) * source.whole(1, square) ** 2 for _ in range(length)] for _ in range(count)]


def all_but_one(source, numbers):
    """The numbers, of which all but one have one sign."""
    sign = source.chosen([1, -1])
    row = [sign * abs(k) for k in numbers]
    row[source.whole(0, len(row) - 1)] *= -1
    return row


def has_zero(row):
    """Of a row of small numbers free of squares, by a search by powers at each place; of two by looking at them."""
    if len(row) == 2:
        return row[0] == -row[1]
    return all(has_zero_at(row, p) for p in PLACES)
