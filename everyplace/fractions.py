"""Fractions: tuples (top, bottom) of whole numbers in lowest terms, bottom from 1 on."""

from everyplace.whole import is_whole


def common_divisor(a, b):
    while b != 0:
        rest = a % b
        a = b
        b = rest
    return abs(a)


# Of any thing.
def is_fraction(thing):
    if not isinstance(thing, tuple) or len(thing) != 2:
        return False
    if not is_whole(thing[0]) or not is_whole(thing[1]):
        return False
    return thing[1] >= 1 and common_divisor(thing[0], thing[1]) == 1


def fraction(top, bottom):
    divisor = common_divisor(top, bottom)
    # A divisor with the bottom's sign takes that sign off the bottom and puts it on the top.
    if bottom < 0:
        divisor = -divisor
    return (top // divisor, bottom // divisor)


def plus(u, v):
    return fraction(u[0] * v[1] + v[0] * u[1], u[1] * v[1])


def minus(u, v):
    return fraction(u[0] * v[1] - v[0] * u[1], u[1] * v[1])


def times(u, v):
    return fraction(u[0] * v[0], u[1] * v[1])


def over(u, v):
    return fraction(u[0] * v[1], u[1] * v[0])


def is_less(u, v):
    return u[0] * v[1] < v[0] * u[1]
