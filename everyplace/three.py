"""Zeros of rows of two and three numbers, and all zeros that come from one."""

from everyplace.errors import TooGreat
from everyplace.fractions import common_divisor
from everyplace.primes import GREAT_FROM, freed
from everyplace.rests import root_by
from everyplace.rows import first_without, refuse_no_row
from everyplace.whole import square_root_or_none


def without_divisor(numbers):
    divisor = 0
    for k in numbers:
        divisor = common_divisor(divisor, k)
    return [k // divisor for k in numbers]


def zero_of_two(row):
    refuse_no_row(row)
    root = square_root_or_none(-row[0] * row[1])
    return None if root is None else without_divisor([root, row[0]])


def freed_product(a, b):
    answer = freed((a * b, 1))
    if abs(answer[0]) >= GREAT_FROM:
        raise TooGreat("a product of two of the row's numbers, freed of squares, is not below 2 to the 30")
    return answer


# r r - a is b times the lesser number c times a square; so a zero of x x - a y y - c z z, multiplied with
# r r - a, comes to one of x x - a y y - b z z.
def from_lesser(a, lesser, root, zero):
    x = zero[0] * root + a * zero[1]
    y = zero[0] + root * zero[1]
    return without_divisor([x, y, lesser[0] * lesser[1][0] * zero[2]])


# A root of k by m that is nearest to 0.
def least_root_by(k, m):
    root = root_by(k, m)
    return root - m if 2 * root > m else root


# x, y, z with x x = a y y + b z z, a and b free of squares; that there are some is known.
def square_of_two(a, b):
    if a == 1:
        return [1, 1, 0]
    if b == 1:
        return [1, 0, 1]
    if abs(a) > abs(b):
        found = square_of_two(b, a)
        return [found[0], found[2], found[1]]
    root = least_root_by(a, abs(b))
    lesser = freed(((root * root - a) // b, 1))
    return from_lesser(a, lesser, root, square_of_two(a, lesser[0]))


# a x x + b y y + c z z is 0 just where the square of a x is -a b y y - a c z z.
def zero_of_three(row):
    refuse_no_row(row)
    one = freed_product(-row[0], row[1])
    other = freed_product(-row[0], row[2])
    if first_without(row) is not None:
        return None
    found = square_of_two(one[0], other[0])
    root = one[1][0]
    other_root = other[1][0]
    x = found[0] * root * other_root
    return without_divisor([x, found[1] * row[0] * other_root, found[2] * row[0] * root])


def first_place(numbers):
    return [i for i, k in enumerate(numbers) if k != 0][0]


def first_above_nought(numbers):
    return [-k for k in numbers] if numbers[first_place(numbers)] < 0 else numbers


def product_of(row, x, y):
    return sum([a * s * t for a, s, t in zip(row, x, y)])


def point_of(row, zero, line):
    refuse_no_row(row)
    direction = list(line)
    direction.insert(first_place(zero), 0)
    made = product_of(row, direction, direction)
    twice = 2 * product_of(row, zero, direction)
    return first_above_nought(without_divisor([made * z - twice * d for z, d in zip(zero, direction)]))


# Through a zero and another point goes the line of their difference; where the point is the zero's own, the line is
# the one that meets no other.
def line_of(row, zero, point):
    refuse_no_row(row)
    h = first_place(zero)
    direction = [zero[h] * y - point[h] * z for z, y in zip(zero, point)]
    if direction == [0, 0, 0]:
        slopes = [a * z for a, z in zip(row, zero)]
        slopes.pop(h)
        direction = [slopes[1], -slopes[0]]
    else:
        direction.pop(h)
    return tuple(first_above_nought(without_divisor(direction)))
