"""Forms: tables that are the same turned over; their values, changes of unknowns, and forms turned upright."""

from everyplace.fractions import fraction
from everyplace.tables import (
    at, cleared_row, exchanged, over_one_bottom, plain_list, product, quotients, sum_of_products, turned_over)


def is_form(T):
    return turned_over(T) == T


def value(F, x):
    return sum_of_products(over_one_bottom(at(F, x)), over_one_bottom(x))


def led(F, T):
    return product(turned_over(T), product(F, T))


def beside(F, G):
    first = [numbers + [(0, 1)] * len(G) for numbers in F]
    return first + [[(0, 1)] * len(F) + numbers for numbers in G]


def with_number(n, place, number):
    return [number if j == place else (0, 1) for j in range(n)]


def form_of(numbers):
    return [with_number(len(numbers), i, number) for i, number in enumerate(numbers)]


# The form that a row of whole numbers stands for.
def form_of_row(row):
    return form_of([(k, 1) for k in row])


# Each list over its own bottom, and beside it the plain one: what is done to the unknowns of a form is done to its
# lists and to its places, so that beside the lists the columns of the change arise. Told with these bottoms.
def opened(F):
    n = len(F)
    rows = []
    bottoms = []
    for i, numbers in enumerate(F):
        whole = over_one_bottom(numbers + plain_list(n, i))
        rows.append(whole[0])
        bottoms.append(whole[1])
    return (rows, bottoms)


# The places of the unknown that is to come to k: one place twice, or two where the second has to be added to the first.
def next_places(rows, k):
    n = len(rows)
    for j in range(k, n):
        if rows[j][j] != 0:
            return (j, j)
    for i in range(k, n):
        for j in range(i + 1, n):
            if rows[i][j] != 0:
                return (i, j)
    return None


def with_sum(numbers, i, j):
    answer = list(numbers)
    answer[i] = numbers[i] + numbers[j]
    return answer


# Unknown j is added to i; the two lists first come over one bottom.
def added(rows, bottoms, i, j):
    summed = [with_sum(row, i, j) for row in rows]
    summed[i] = [a * bottoms[j] + b * bottoms[i] for a, b in zip(summed[i], summed[j])]
    bottom = bottoms[i] * bottoms[j]
    return (summed, [bottom if k == i else bottoms[k] for k in range(len(bottoms))])


def unknowns_exchanged(rows, i, j):
    return [exchanged(row, i, j) for row in exchanged(rows, i, j)]


# The lists ahead of k are done: what is done to their places doesn't matter, as noughts are to come there. All others
# are, but for their own bottoms, the same number of times too great: before. Told are the lists with what each is to
# be divided by.
def turned(rows, bottoms):
    n = len(rows)
    divisors = []
    before = 1
    for k in range(n):
        places = next_places(rows, k)
        if places is None:
            return (rows, divisors + [before * bottom for bottom in bottoms[k:]])
        if places[0] != places[1]:
            summed = added(rows, bottoms, places[0], places[1])
            rows = summed[0]
            bottoms = summed[1]
        rows = unknowns_exchanged(rows, k, places[0])
        bottoms = exchanged(bottoms, k, places[0])
        taken = rows[k]
        rows = [rows[i] if i <= k else cleared_row(rows[i], taken, k, before) for i in range(n)]
        divisors.append(before * bottoms[k])
        before = taken[k]
    return (rows, divisors)


def upright(F):
    n = len(F)
    start = opened(F)
    known = turned(start[0], start[1])
    numbers = []
    columns = []
    for i, row in enumerate(known[0]):
        numbers.append(fraction(row[i], known[1][i]))
        columns.append(quotients(row[n:], known[1][i]))
    return (numbers, turned_over(columns))
