"""Small numbers, and numbers with wished classes at the small places."""

from everyplace.places import class_at
from everyplace.primes import next_prime
from everyplace.rows import is_row_number
from everyplace.whole import square_root_or_none, taken_out

SMALL_PLACES = (0, 2, 3, 5, 7, 11, 13)


def is_small(k):
    if not is_row_number(k):
        return False
    left = abs(k)
    for p in SMALL_PLACES[1:]:
        left = taken_out(left, p)[1]
    return square_root_or_none(left) is not None


def has_classes(k, classes):
    for p, wish in zip(SMALL_PLACES, classes):
        if class_at(k, p) != wish:
            return False
    return True


# The sign, and the small primes that go an odd number of times.
def small_part(classes):
    answer = classes[0]
    for p, wish in zip(SMALL_PLACES[1:], classes[1:]):
        if wish[0] == 1:
            answer = answer * p
    return answer


def number_with(classes):
    start = small_part(classes)
    if has_classes(start, classes):
        return start
    p = next_prime(SMALL_PLACES[6])
    while not has_classes(start * p, classes):
        p = next_prime(p)
    return start * p
