"""Plain pairs: rows t, -t, which make every number; how many a row has, and the rest without a zero."""

from everyplace.alike import refuse_great_or_long, step_to
from everyplace.meets import meeting
from everyplace.places import is_square_at, primes_of, says
from everyplace.rows import first_without, is_no, refuse_no_row

# Rows are parted up to so many numbers.
LONGEST_PARTED = 4


def product_of_all(row):
    answer = 1
    for k in row:
        answer = answer * k
    return answer


# Of any so many numbers with this product, whether an odd number of their pairs says no being known.
def has_pair_at(size, number, odd, p):
    if size < 2:
        return False
    if size == 2:
        return is_square_at(-number, p)
    if size == 3:
        return odd != says(-1, -number, p)
    if size == 4:
        return not is_square_at(number, p) or odd != says(-1, -1, p)
    return True


# A pair 1, -1 is taken off again and again: the pairs of 1 with others say yes, and those of -1 with others say as -1
# and the product of these do.
def pairs_at_prime(row, p):
    size = len(row)
    number = product_of_all(row)
    odd = is_no(row, p)
    often = 0
    while has_pair_at(size, number, odd, p):
        size = size - 2
        number = -number
        odd = odd == says(-1, number, p)
        often = often + 1
    return often


def pairs_at_nought(row):
    above = len([k for k in row if k > 0])
    return min(above, len(row) - above)


# No other prime leaves fewer: at these a rest of at most two is left, and of two only where the product, with its sign
# for so many pairs, is no square; then it is none, too, at 2 or at a prime that goes into it an odd number of times.
def how_many_pairs(row):
    refuse_no_row(row)
    return min([pairs_at_nought(row)] + [pairs_at_prime(row, p) for p in primes_of(row)])


# The two numbers change places.
def exchange(i, j):
    return (i, j, (0, 1), (1, 1))


# The first two are led to minus the third.
def steps_of_three(row):
    return [step_to(0, 1, row[0], row[1], -row[2]), exchange(1, 2)]


# The first two are led to t, the others to -t.
def steps_of_four(row):
    t = meeting(row[:2], row[2:])
    return [step_to(0, 1, row[0], row[1], t), step_to(2, 3, row[2], row[3], -t), exchange(1, 2)]


def parted(row):
    refuse_no_row(row)
    refuse_great_or_long(row, LONGEST_PARTED)
    if first_without(row) is not None:
        return ([], 0)
    steps = []
    if len(row) == 3:
        steps = steps_of_three(row)
    if len(row) == 4:
        steps = steps_of_four(row)
    return (steps, how_many_pairs(row))
