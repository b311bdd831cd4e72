"""Squares and their roots by primes, and by numbers free of squares."""

from everyplace.primes import parts
from everyplace.whole import back_by, power_by, taken_out


def square_by(k, p):
    rest = k % p
    if rest == 0 or p == 2:
        return rest
    return 1 if power_by(rest, (p - 1) // 2, p) == 1 else -1


def least_no_square(p):
    k = 2
    while square_by(k, p) != -1:
        k = k + 1
    return k


# How often a number is squared by p until it is 1.
def squarings(k, p):
    often = 0
    while k != 1:
        k = k * k % p
        often = often + 1
    return often


# p - 1 is 2 to the twos times an odd number. The root's square is k times an error, which comes to 1 when squared
# often enough; each factor put to the root makes this less often, so that at last there is no error.
def root_of_square(k, p):
    out = taken_out(p - 1, 2)
    twos = out[0]
    odd = out[1]
    root = power_by(k, (odd + 1) // 2, p)
    error = power_by(k, odd, p)
    mender = power_by(least_no_square(p), odd, p) if error != 1 else 1
    while error != 1:
        often = squarings(error, p)
        for step in range(twos - often - 1):
            mender = mender * mender % p
        root = root * mender % p
        mender = mender * mender % p
        error = error * mender % p
        twos = often
    return root


def root_by_prime(k, p):
    kind = square_by(k, p)
    if kind == -1:
        return None
    if kind == 0 or p == 2:
        return kind
    return root_of_square(k % p, p)


# The whole number from 0 to m p - 1 that leaves one rest by m, the other by p, no number above 1 dividing both.
def with_rests(one, m, other, p):
    return one + m * ((other - one) * back_by(m, p) % p)


def root_by(k, m):
    answer = 0
    done = 1
    for part in parts(m):
        root = root_by_prime(k, part[0])
        if root is None:
            return None
        answer = with_rests(answer, done, root, part[0])
        done = done * part[0]
    return answer
