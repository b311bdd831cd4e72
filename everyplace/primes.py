"""Primes, the parts of numbers, and numbers freed of squares."""

from everyplace.errors import TooGreat
from everyplace.fractions import fraction
from everyplace.whole import power, square_root, square_root_or_none, taken_out

# Primes from here on are not looked for where it is asked whether a number is tame.
GREAT_PRIMES_FROM = 32768
# The square of that, 2 to the 30: what is below it, and no prime below that divides, is 1 or a prime.
GREAT_FROM = 1073741824


# The least odd divisor of k from begin on, below end, with a square not above k; begin is odd.
def next_divisor(k, begin, end):
    for divisor in range(begin, min(end, square_root(k) + 1), 2):
        if k % divisor == 0:
            return divisor
    return None


def is_prime(k):
    if k < 3 or k % 2 == 0:
        return k == 2
    return next_divisor(k, 3, k) is None


def next_prime(k):
    answer = k + 1
    while not is_prime(answer):
        answer = answer + 1
    return answer


# The primes below end that divide k, each with how often it goes, and what is left. The search is over, too, where
# that has to be 1 or a prime, be it below end or not.
def divided(k, end):
    out = taken_out(k, 2)
    found = [(2, out[0])] if out[0] > 0 else []
    left = out[1]
    divisor = next_divisor(left, 3, end)
    while divisor is not None:
        out = taken_out(left, divisor)
        found.append((divisor, out[0]))
        left = out[1]
        divisor = next_divisor(left, divisor + 2, end)
    return (found, left)


def parts(k):
    known = divided(k, k + 1)
    last = [(known[1], 1)] if known[1] > 1 else []
    return known[0] + last


# Of a tame number above 0 its primes with how often they go, and the root of the square that is left beside them;
# None of one that is not tame.
def tame_parts(k):
    known = divided(k, GREAT_PRIMES_FROM)
    if 1 < known[1] < GREAT_FROM:
        return (known[0] + [(known[1], 1)], 1)
    root = square_root_or_none(known[1])
    return None if root is None else (known[0], root)


def is_tame(k):
    return tame_parts(abs(k)) is not None


def freed(u):
    # The fraction is its top times its bottom, over the square of its bottom.
    known = tame_parts(abs(u[0]) * u[1])
    if known is None:
        raise TooGreat("a number that is not tame can't be freed of squares")
    number = 1 if u[0] > 0 else -1
    root = known[1]
    for part in known[0]:
        if part[1] % 2 == 1:
            number = number * part[0]
        root = root * power(part[0], part[1] // 2)
    return (number, fraction(root, u[1]))


def free_of(k):
    return freed((k, 1))[0]
