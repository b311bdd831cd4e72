"""Rows: lists of whole numbers that stand for sums of squares with these numbers ahead; where they have zeros."""

from everyplace.errors import NoRow, TooGreat
from everyplace.fractions import common_divisor
from everyplace.lifts import zero_by_odd, zero_by_two
from everyplace.places import is_square_at, primes_of, says
from everyplace.primes import GREAT_FROM, free_of, next_prime
from everyplace.whole import is_whole, square_root_or_none

LONGEST = 8
# 2 to the 60.
GREAT_PRODUCT_FROM = 1152921504606846976


def is_row_number(k):
    return is_whole(k) and k != 0 and abs(k) < GREAT_FROM


def is_row(row):
    if not isinstance(row, list) or not 1 <= len(row) <= LONGEST:
        return False
    return all([is_row_number(k) for k in row])


def refuse_no_row(row):
    if not is_row(row):
        raise NoRow("a row is a list of one to eight whole numbers, not 0, below 2 to the 30 without their sign")


# Of two numbers free of squares, their product freed of squares; it can be told where that is not tame.
def joined(a, b):
    divisor = common_divisor(a, b)
    return (a // divisor) * (b // divisor)


# The product freed of squares, however great.
def free_product(row):
    number = 1
    for k in row:
        number = joined(number, free_of(k))
    return number


def number_of(row):
    refuse_no_row(row)
    number = free_product(row)
    if abs(number) >= GREAT_PRODUCT_FROM:
        raise TooGreat("the row's number is not below 2 to the 60 without its sign")
    return number


def signs_of(row):
    refuse_no_row(row)
    return len([k for k in row if k > 0])


def is_no(row, p):
    noes = 0
    for i, a in enumerate(row):
        noes = noes + len([b for b in row[i + 1:] if not says(a, b, p)])
    return noes % 2 == 1


def noes_of(row):
    refuse_no_row(row)
    return [p for p in [0] + primes_of(row) if is_no(row, p)]


# a x x + b y y + c z z times -c: -a c and -b c are asked of whether they make the square of c z.
def three_have_zero(a, b, c, p):
    return says(-a * c, -b * c, p)


# Of four numbers whose product is a square there, each three have a zero or none.
def four_have_zero(numbers, p):
    product = numbers[0] * numbers[1] * numbers[2] * numbers[3]
    return not is_square_at(product, p) or three_have_zero(numbers[0], numbers[1], numbers[2], p)


# Of one to nine numbers.
def have_zero(numbers, p):
    if p == 0:
        return min(numbers) < 0 < max(numbers)
    if len(numbers) == 1:
        return False
    if len(numbers) == 2:
        return is_square_at(-numbers[0] * numbers[1], p)
    if len(numbers) == 3:
        return three_have_zero(numbers[0], numbers[1], numbers[2], p)
    if len(numbers) == 4:
        return four_have_zero(numbers, p)
    return True


def zero_at(row, p):
    refuse_no_row(row)
    return have_zero(row, p)


# Any prime may be the first, but a number that is a square at every prime is one.
def first_prime_without(row):
    if square_root_or_none(-row[0] * row[1]) is not None:
        return None
    p = 2
    while have_zero(row, p):
        p = next_prime(p)
    return p


# Of one to nine numbers.
def first_barring(numbers):
    if not have_zero(numbers, 0):
        return 0
    if len(numbers) == 2:
        return first_prime_without(numbers)
    if len(numbers) > 4:
        return None
    barring = [p for p in primes_of(numbers) if not have_zero(numbers, p)]
    return barring[0] if len(barring) > 0 else None


def first_without(row):
    refuse_no_row(row)
    return first_barring(row)


def zero_by(row, p, k):
    refuse_no_row(row)
    return zero_by_two(row, k) if p == 2 else zero_by_odd(row, p, k)


def makes_at(row, c, p):
    refuse_no_row(row)
    return have_zero(row + [-c], p)
