"""Second ways to what the package tells, by trying: for small numbers alone."""

from functools import lru_cache

# The greatest prime below 2 to the 15 and the least above, the greatest below 2 to the 30 and the least above.
BELOW_15, ABOVE_15 = 32749, 32771
BELOW_30, ABOVE_30 = 1073741789, 1073741827


def primes_below(end):
    marks = [True] * end
    marks[:2] = [False] * min(end, 2)
    for k in range(2, end):
        if marks[k]:
            marks[k * k::k] = [False] * len(range(k * k, end, k))
    return [k for k in range(end) if marks[k]]


PRIMES = primes_below(32800)


def is_prime_by_trying(k):
    if k < 2:
        return False
    for p in PRIMES:
        if p * p > k:
            return True
        if k % p == 0:
            return False
    raise AssertionError("too great for this list of primes")


def often_in(k, p):
    often = 0
    while k % p == 0:
        k //= p
        often += 1
    return often


def squarefree(k):
    """Whether no square above 1 divides a number below 2 to the 30."""
    return k != 0 and all(k % (p * p) != 0 for p in PRIMES if p * p <= abs(k))


def free_by_trying(k):
    """The number free of squares of one without primes above the list but at most one."""
    sign, left, found = (1 if k > 0 else -1), abs(k), 1
    for p in PRIMES:
        if p * p > left:
            break
        often = often_in(left, p)
        left //= p ** often
        found *= p ** (often % 2)
    return sign * found * left


@lru_cache(maxsize=None)
def squares_by(p, k):
    m = p ** k
    every = {x * x % m for x in range(m)}
    return every, {x * x % m for x in range(m) if x % p != 0}


def moved(sums, steps, m):
    """Sums are kept as the bits of one number; each is moved on by each step, round by m."""
    found = 0
    for step in steps:
        found |= sums << step
    return (found | found >> m) & ((1 << m) - 1)


def has_zero_by(numbers, p, k):
    """Whether p to the k divides what the numbers come to for some unknowns, not all of them divided by p."""
    m = p ** k
    every, undivided = squares_by(p, k)
    sums, told = 1, 0
    for a in numbers:
        steps = {a * s % m for s in every}
        told = moved(told, steps, m) | moved(sums, {a * s % m for s in undivided}, m)
        sums = moved(sums, steps, m)
    return told & 1 == 1


def power_enough(numbers, p):
    """A zero by this power can be lifted to all higher ones."""
    return max(often_in(a, p) for a in numbers) + (3 if p == 2 else 1)


def has_zero_at(numbers, p):
    if p == 0:
        return any(a > 0 for a in numbers) and any(a < 0 for a in numbers)
    return has_zero_by(numbers, p, power_enough(numbers, p))


def made_of(numbers, x):
    return sum(a * s * s for a, s in zip(numbers, x, strict=True))
