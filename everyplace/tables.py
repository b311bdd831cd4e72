"""Tables: lists of n lists of n fractions; vectors: lists of n fractions."""

from everyplace.fractions import common_divisor, fraction, is_fraction


# Of any thing.
def is_vector(thing, n):
    return isinstance(thing, list) and len(thing) == n and all([is_fraction(u) for u in thing])


def is_table(thing, n):
    return isinstance(thing, list) and len(thing) == n and all([is_vector(numbers, n) for numbers in thing])


def plain_list(n, place):
    return [(1, 1) if j == place else (0, 1) for j in range(n)]


def plain_table(n):
    return [plain_list(n, i) for i in range(n)]


def column(T, j):
    return [numbers[j] for numbers in T]


def turned_over(T):
    return [column(T, j) for j in range(len(T))]


def common_bottom(numbers):
    bottom = 1
    for u in numbers:
        bottom = bottom * u[1] // common_divisor(bottom, u[1])
    return bottom


# Over one bottom sums are sums of whole numbers, brought to lowest terms but once, at their end.
def over_one_bottom(numbers):
    bottom = common_bottom(numbers)
    return ([u[0] * (bottom // u[1]) for u in numbers], bottom)


def sum_of_products(one, other):
    total = sum([a * b for a, b in zip(one[0], other[0])])
    return fraction(total, one[1] * other[1])


def sums_with(one, others):
    return [sum_of_products(one, other) for other in others]


def at(T, x):
    rows = [over_one_bottom(numbers) for numbers in T]
    return sums_with(over_one_bottom(x), rows)


def product(one, other):
    columns = [over_one_bottom(numbers) for numbers in turned_over(other)]
    return [sums_with(over_one_bottom(numbers), columns) for numbers in one]


def first_with(rows, k):
    for i in range(k, len(rows)):
        if rows[i][k] != 0:
            return i
    return None


def exchanged(rows, i, j):
    answer = list(rows)
    answer[i] = rows[j]
    answer[j] = rows[i]
    return answer


# The number taken before divides without a rest: all numbers that arise here are size-numbers of parts of the first
# rows. So they stay whole, and grow no more than they must.
def cleared_row(row, taken, k, before):
    return [(taken[k] * a - row[k] * b) // before for a, b in zip(row, taken)]


# Of n lists of at least n whole numbers: the size-number of their first n places, and, where it isn't 0, the lists
# led so far that in these places one and the same number is left, in list i at place i, and noughts beside.
def cleared(given):
    rows = given
    sign = 1
    before = 1
    for k in range(len(rows)):
        found = first_with(rows, k)
        if found is None:
            return (0, rows)
        if found != k:
            rows = exchanged(rows, found, k)
            sign = -sign
        taken = rows[k]
        rows = [rows[i] if i == k else cleared_row(rows[i], taken, k, before) for i in range(len(rows))]
        before = taken[k]
    return (sign * before, rows)


def size_number(T):
    rows = []
    bottoms = 1
    for numbers in T:
        whole = over_one_bottom(numbers)
        rows.append(whole[0])
        bottoms = bottoms * whole[1]
    return fraction(cleared(rows)[0], bottoms)


def quotients(tops, bottom):
    return [fraction(top, bottom) for top in tops]


# Beside each list of T stands the plain one: what clears the lists of T makes the back of these, but for the number
# that is left.
def back(T):
    n = len(T)
    rows = [over_one_bottom(T[i] + plain_list(n, i))[0] for i in range(n)]
    answer = cleared(rows)
    if answer[0] == 0:
        return None
    return [quotients(row[n:], row[i]) for i, row in enumerate(answer[1])]
