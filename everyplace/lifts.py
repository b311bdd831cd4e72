"""Zeros of rows by powers of a prime, the rows' numbers being free of squares."""

from everyplace.rests import root_by_prime
from everyplace.whole import back_by, power

# A zero by this power of 2 can be lifted to all higher ones.
LIFTED_FROM = 4


# Of three numbers that p, odd, doesn't divide. There always is one: a x x leaves more than half of all rests, as x
# goes on, and so does -(b y y + c), as y does; so one rest is among both.
def zero_of_three_by(numbers, p):
    back = back_by(numbers[0], p)
    for y in range(p):
        x = root_by_prime(-(numbers[1] * y * y + numbers[2]) * back, p)
        if x is not None:
            return [x, y, 1]
    return None


# Of numbers that p, odd, doesn't divide.
def zero_of_undivided(numbers, p):
    if len(numbers) < 2:
        return None
    if len(numbers) == 2:
        x = root_by_prime(-numbers[1] * back_by(numbers[0], p), p)
        return None if x is None else [x, 1]
    return zero_of_three_by(numbers[:3], p) + [0] * (len(numbers) - 3)


# A zero by p of the numbers at these places alone, the divisor taken out of each.
def zero_among(row, places, divisor, p):
    found = zero_of_undivided([row[i] // divisor for i in places], p)
    if found is None:
        return None
    answer = [0] * len(row)
    for i, x in zip(places, found):
        answer[i] = x
    return answer


# By p times p: where p divides all unknowns of the undivided numbers, p times p divides their terms, so that the other
# numbers have a zero by themselves.
def zero_by_odd(row, p, k):
    undivided = [i for i, a in enumerate(row) if a % p != 0]
    divided = [i for i, a in enumerate(row) if a % p == 0]
    if k == 1 and len(divided) > 0:
        return [1 if i == divided[0] else 0 for i in range(len(row))]
    found = zero_among(row, undivided, 1, p)
    if found is None:
        found = zero_among(row, divided, p, p)
    return None if found is None else lifted(row, found, p, k)


# All sums by m with one number more, each with whether an odd x is among the unknowns, and with these. The squares of
# 0 to 3 leave by 16, and by what divides it, all that squares do.
def further_sums(sums, a, m):
    answer = {}
    for key in sums:
        for x in range(min(m, 4)):
            rest = (key[0] + a * x * x) % m
            answer.setdefault((rest, key[1] or x % 2 == 1), sums[key] + [x])
    return answer


def zero_by_two(row, k):
    m = power(2, min(k, LIFTED_FROM))
    sums = {(0, False): []}
    for a in row:
        sums = further_sums(sums, a, m)
    found = sums.get((0, True))
    if found is None or k <= LIFTED_FROM:
        return found
    return lifted(row, found, 2, k)


# From a root by p, odd, on: what is wrong with it is divided by one power of p more at each step.
def root_by_odd_power(square, root, p, k):
    m = power(p, k)
    mender = back_by(2 * root, p)
    for step in range(1, k):
        root = (root - (root * root - square) * mender) % m
    return root


# Of a number that leaves 1 by 8: from 8 on, a root by one power of 2 is one by the next, or is so with half of that
# power added.
def root_by_power_of_two(square, k):
    root = 1
    m = 16
    for step in range(3, k):
        if (root * root - square) % m != 0:
            root = root + m // 4
        m = 2 * m
    return root


# One unknown that p doesn't divide is mended, the others stay.
def lifted(row, zero, p, k):
    place = [i for i, x in enumerate(zero) if x % p != 0][0]
    others = sum([a * x * x for a, x in zip(row, zero)]) - row[place] * zero[place] * zero[place]
    divisor = p if row[place] % p == 0 else 1
    m = power(p, k)
    square = -(others // divisor) * back_by(row[place] // divisor, m) % m
    answer = list(zero)
    if p == 2:
        answer[place] = root_by_power_of_two(square, k)
    else:
        answer[place] = root_by_odd_power(square, zero[place], p, k)
    return answer
