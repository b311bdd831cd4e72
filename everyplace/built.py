"""Rows with a wished size, signs, number and noes."""

from everyplace.meets import number_among, samples_at
from everyplace.places import all_noes, class_at, is_square_at, says
from everyplace.rows import joined
from everyplace.wished import SMALL_PLACES

# The product of all small primes.
ALL_SMALL_PRIMES = 30030


def can_be(wish):
    below = wish[0] - wish[1]
    number = wish[2]
    noes = wish[3]
    if (number < 0) != (below % 2 == 1) or len(noes) % 2 == 1:
        return False
    # Of numbers below 0 each pair says no at 0.
    if (0 in noes) != (below * (below - 1) // 2 % 2 == 1):
        return False
    if wish[0] == 1:
        return len(noes) == 0
    return wish[0] > 2 or not any([is_square_at(-number, p) for p in noes])


# The classes of the first of two numbers: with the second, and so with minus the product, it has to say as is wished.
def classes_for(number, noes, p):
    return [class_at(k, p) for k in samples_at(p) if says(k, -number, p) != (p in noes)]


# The signs come by themselves: two of one sign have a product above 0, and then what is said at 0 is the first's sign.
# A prime above the small ones, where there is one in both, can't be a no: the noes are even in number.
def two_with(number, noes):
    wishes = [classes_for(number, noes, p) for p in SMALL_PLACES]
    first = number_among(list(SMALL_PLACES), wishes)
    return [first, joined(first, number)]


# Of three, the first is taken such that all small primes go into the product of the two others: these then can have
# all noes that are even in number. Of more, the first may be 1 or -1.
def first_of(size, signs, number):
    answer = abs(joined(number, ALL_SMALL_PRIMES)) if size == 3 else 1
    return answer if signs > 0 else -answer


def in_one_alone(one, other):
    return [p for p in SMALL_PLACES if (p in one) != (p in other)]


# The first number says with the others, together, what it says with their product.
def row_with(size, signs, number, noes):
    if size == 1:
        return [number]
    if size == 2:
        return two_with(number, noes)
    first = first_of(size, signs, number)
    left = joined(number, first)
    others = row_with(size - 1, max(signs - 1, 0), left, in_one_alone(noes, all_noes(first, left)))
    return [first] + others


def built(wish):
    return row_with(wish[0], wish[1], wish[2], wish[3]) if can_be(wish) else None
