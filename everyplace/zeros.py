"""Zeros of rows of small numbers, and values for which such rows make a small number."""

from everyplace.errors import TooGreat
from everyplace.fractions import fraction, over, plus, times
from everyplace.meets import meeting
from everyplace.primes import freed
from everyplace.rows import first_barring, refuse_no_row
from everyplace.tables import over_one_bottom
from everyplace.three import first_place, without_divisor, zero_of_three, zero_of_two
from everyplace.wished import is_small

# Five numbers have a zero at every prime.
ENOUGH = 5


def refuse_great(numbers):
    if not all([is_small(k) for k in numbers]):
        raise TooGreat("a number is not small")


# The first two come to t times a square, the others to minus t times one: multiplied with these, they come to 0.
def zero_by_meeting(numbers):
    t = meeting(numbers[:2], numbers[2:])
    one = zero_of_three(numbers[:2] + [-t])
    if one[2] == 0:
        return one[:2] + [0] * (len(numbers) - 2)
    other = zero_of_free(numbers[2:] + [t])
    return [x * other[-1] for x in one[:2]] + [x * one[2] for x in other[:-1]]


# Five places, with both signs among the first two.
def five_places(numbers):
    above = [i for i, k in enumerate(numbers) if k > 0]
    below = [i for i, k in enumerate(numbers) if k < 0]
    ahead = [above[0], below[0]]
    others = [i for i in range(len(numbers)) if i not in ahead]
    return ahead + others[:ENOUGH - 2]


def zero_of_five_among(numbers):
    places = five_places(numbers)
    answer = [0] * len(numbers)
    for i, x in zip(places, zero_by_meeting([numbers[i] for i in places])):
        answer[i] = x
    return answer


# Of two and more numbers free of squares; that they have a zero is known. Of four the last, of three the last two may
# be other than small: so they stay in their order, and of three no product with the first is too great.
def zero_of_free(numbers):
    if len(numbers) == 2:
        return zero_of_two(numbers)
    if len(numbers) == 3:
        return zero_of_three(numbers)
    return zero_by_meeting(numbers) if len(numbers) == 4 else zero_of_five_among(numbers)


# Whole numbers without a common divisor that are to one another as the fractions, not all 0.
def made_whole(x):
    return without_divisor(over_one_bottom(x)[0])


# Of one to nine small numbers.
def zero_of_small(numbers):
    if first_barring(numbers) is not None:
        return None
    known = [freed((k, 1)) for k in numbers]
    zero = zero_of_free([one[0] for one in known])
    return made_whole([over((x, 1), one[1]) for x, one in zip(zero, known)])


def zero_of(row):
    refuse_no_row(row)
    refuse_great(row)
    return zero_of_small(row)


# By a zero of the numbers with -c behind them. Where that has 0 for -c, the numbers have a zero by themselves: so many
# times this, and 1 at one place, come to c.
def values_by_zero(numbers, c, zero):
    if zero[-1] != 0:
        return [fraction(x, zero[-1]) for x in zero[:-1]]
    h = first_place(zero)
    often = fraction(c - numbers[h], 2 * numbers[h] * zero[h])
    answer = [times(often, (x, 1)) for x in zero[:-1]]
    answer[h] = plus(answer[h], (1, 1))
    return answer


# Of one to eight small numbers, and a small one.
def values_of_small(numbers, c):
    zero = zero_of_small(numbers + [-c])
    return None if zero is None else values_by_zero(numbers, c, zero)


def values_for(row, c):
    refuse_no_row(row)
    refuse_great(row + [c])
    return values_of_small(row, c)


# Of two numbers, free of squares like c; that they make c is known.
def values_of_two(a, b, c):
    return values_by_zero([a, b], c, zero_of_three([a, b, -c]))
