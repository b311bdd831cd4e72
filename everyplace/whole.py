"""Whole numbers: powers, what divides them out, square roots, and backs by a number."""


# True and False are no whole numbers.
def is_whole(k):
    return isinstance(k, int) and not isinstance(k, bool)


def power(base, exponent):
    answer = 1
    for step in range(exponent):
        answer = answer * base
    return answer


def power_by(base, exponent, m):
    answer = 1 % m
    square = base % m
    while exponent > 0:
        if exponent % 2 == 1:
            answer = answer * square % m
        square = square * square % m
        exponent = exponent // 2
    return answer


# How often the divisor goes into k, not 0, and what is left, with the sign of k.
def taken_out(k, divisor):
    often = 0
    left = k
    while left % divisor == 0:
        left = left // divisor
        often = often + 1
    return (often, left)


# The greatest whole number whose square is not above k. Begun too great, each further guess is lower, until it fits.
def square_root(k):
    root = 1 << ((k.bit_length() + 1) // 2)
    while root * root > k:
        root = (root + k // root) // 2
    return root


def square_root_or_none(k):
    if k < 0:
        return None
    root = square_root(k)
    return root if root * root == k else None


# The whole number from 0 to m - 1 that times k leaves 1 by m, no number above 1 dividing both.
def back_by(k, m):
    rest = m
    below = k % m
    factor = 0
    factor_below = 1
    while below != 0:
        often = rest // below
        left = rest - often * below
        factor_left = factor - often * factor_below
        rest = below
        below = left
        factor = factor_below
        factor_below = factor_left
    return factor % m
