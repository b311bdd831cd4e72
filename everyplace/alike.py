"""Alike rows: what parts two rows, and the steps that lead one to the other."""

from everyplace.errors import TooGreat
from everyplace.meets import meeting
from everyplace.rows import free_product, noes_of, refuse_no_row, signs_of
from everyplace.steps import all_stepped, is_free, row_behind
from everyplace.wished import is_small
from everyplace.zeros import values_of_two

# Changes are told for rows of up to so many numbers.
LONGEST_LED = 3


def first_in_one_alone(one, other):
    for p in sorted(one + other):
        if p not in one or p not in other:
            return p
    return None


def parting(one, other):
    refuse_no_row(one)
    refuse_no_row(other)
    if len(one) != len(other):
        return ("size",)
    if signs_of(one) != signs_of(other):
        return ("signs",)
    if free_product(one) != free_product(other):
        return ("number",)
    p = first_in_one_alone(noes_of(one), noes_of(other))
    return None if p is None else ("place", p)


def is_small_and_free(k):
    return is_small(k) and is_free(k)


def refuse_great_or_long(row, longest):
    if len(row) > longest or not all([is_small_and_free(k) for k in row]):
        raise TooGreat("the row is too long, or a number of it is not small or not free of squares")


# The step that makes c at i, of a at i and b at j.
def step_to(i, j, a, b, c):
    values = values_of_two(a, b, c)
    return (i, j, values[0], values[1])


# First t is made that the first two numbers make, and with the third makes the other row's first; what then is left is
# alike to what is left of the other row.
def steps_of_three(one, other):
    t = meeting(one[:2], [one[2], -other[0]])
    steps = [step_to(0, 1, one[0], one[1], t)]
    steps.append(step_to(0, 2, t, one[2], other[0]))
    row = row_behind(one, steps)
    return steps + [step_to(1, 2, row[1], row[2], other[1])]


def steps_to(one, other):
    if one == other:
        return []
    if len(one) == 2:
        return [step_to(0, 1, one[0], one[1], other[0])]
    return steps_of_three(one, other)


# The steps lead to the other row's numbers in its own order.
def leading(one, other):
    apart = parting(one, other)
    refuse_great_or_long(one, LONGEST_LED)
    refuse_great_or_long(other, LONGEST_LED)
    if apart is not None:
        return None
    steps = steps_to(one, other)
    return (steps, list(range(len(one))), all_stepped(one, steps)[1])
