"""Numbers that one sum of squares makes, and the turned sign of which another one makes."""

from everyplace.places import class_at, primes_of
from everyplace.primes import next_prime
from everyplace.rests import least_no_square
from everyplace.rows import have_zero
from everyplace.wished import SMALL_PLACES

AT_NOUGHT = (1, -1)
AT_TWO = (1, 3, 5, 7, 2, 6, 10, 14)


# One number of each class.
def samples_at(p):
    if p == 0:
        return list(AT_NOUGHT)
    if p == 2:
        return list(AT_TWO)
    no_square = least_no_square(p)
    return [1, no_square, p, p * no_square]


# The class of a product. So each class times itself is that of 1.
def class_of_product(one, other, p):
    if p == 0:
        return one * other
    rest = one[1] * other[1]
    return ((one[0] + other[0]) % 2, rest % 8 if p == 2 else rest)


# The numbers free of squares made of small primes, the lesser ones first.
def small_free_numbers():
    found = [1, -1]
    for p in SMALL_PLACES[1:]:
        found = found + [k * p for k in found]
    return sorted(found, key=abs)


def classes_of(k, places):
    return [class_at(k, p) for p in places]


# For each place those classes that a number has to have so that k times it has one of the wished ones.
def wishes_without(k, places, wishes):
    answer = []
    for p, classes in zip(places, wishes):
        own = class_at(k, p)
        answer.append([class_of_product(own, wish, p) for wish in classes])
    return answer


def are_among(classes, wishes):
    for own, wish in zip(classes, wishes):
        if own not in wish:
            return False
    return True


# A number free of squares with one of the wished classes at each place, the small places being among them; it is made
# of small primes, and of one greater prime where it must. Where there are wishes for each place, there is such a prime.
def number_among(places, wishes):
    starts = small_free_numbers()
    known = [classes_of(k, places) for k in starts]
    further = 1
    while True:
        left = wishes_without(further, places, wishes)
        for k, classes in zip(starts, known):
            if are_among(classes, left):
                return k * further
        further = next_prime(max(further, SMALL_PLACES[6]))


def shared_classes(one, other, p):
    return [class_at(k, p) for k in samples_at(p) if have_zero(one + [-k], p) and have_zero(other + [k], p)]


# A number that two numbers, one, make with squares, and minus which the others make; all together have a zero at every
# place. A prime that is in this number alone can't bar it: of three numbers the places that bar are even in number, of
# four none bars that goes into one of them alone, and of more none at all.
def meeting(one, other):
    places = sorted(set(list(SMALL_PLACES) + primes_of(one + other)))
    return number_among(places, [shared_classes(one, other, p) for p in places])
