"""Places: what each says of two numbers, and the class of a number there."""

from everyplace.primes import free_of, parts
from everyplace.rests import square_by
from everyplace.whole import taken_out


def class_at(k, p):
    if p == 0:
        return 1 if k > 0 else -1
    out = taken_out(k, p)
    rest = out[1] % 8 if p == 2 else square_by(out[1], p)
    return (out[0] % 2, rest)


def is_square_at(k, p):
    return class_at(k, p) == (1 if p == 0 else (0, 1))


# Of classes at 2: an odd number of reasons makes a no.
def two_says(one, other):
    reasons = 0
    if one[1] % 4 == 3 and other[1] % 4 == 3:
        reasons = reasons + 1
    if one[0] == 1 and other[1] in (3, 5):
        reasons = reasons + 1
    if other[0] == 1 and one[1] in (3, 5):
        reasons = reasons + 1
    return reasons % 2 == 0


# Of classes at an odd prime.
def odd_says(one, other, p):
    said = 1
    if one[0] == 1:
        said = said * other[1]
    if other[0] == 1:
        said = said * one[1]
    if one[0] == 1 and other[0] == 1:
        said = said * square_by(-1, p)
    return said == 1


def says(a, b, p):
    if p == 0:
        return a > 0 or b > 0
    one = class_at(a, p)
    other = class_at(b, p)
    return two_says(one, other) if p == 2 else odd_says(one, other, p)


# 2, and the primes that divide one of the numbers, rising.
def primes_of(numbers):
    found = [2]
    for k in numbers:
        for part in parts(abs(k)):
            found.append(part[0])
    return sorted(set(found))


def all_noes(a, b):
    one = free_of(a)
    other = free_of(b)
    return [p for p in [0] + primes_of([one, other]) if not says(one, other, p)]
