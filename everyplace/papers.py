"""A checker of papers about rows. It multiplies, compares, and looks at rests."""

from everyplace.errors import NoStep
from everyplace.forms import form_of_row, led, value
from everyplace.primes import GREAT_PRIMES_FROM, free_of, is_prime
from everyplace.rows import have_zero, is_row, refuse_no_row, zero_by
from everyplace.steps import is_like_step, row_behind
from everyplace.tables import is_table, is_vector
from everyplace.whole import is_whole


def is_zero(row, zero):
    if not isinstance(zero, list) or len(zero) != len(row) or not all([is_whole(x) for x in zero]):
        return False
    return any([x != 0 for x in zero]) and sum([a * x * x for a, x in zip(row, zero)]) == 0


def come_to(row, c, x):
    return is_whole(c) and is_vector(x, len(row)) and value(form_of_row(row), x) == (c, 1)


# By 16, or by the square of an odd prime, there is no zero just where there is none by all higher powers, if no square
# is in the numbers.
def is_barred(row, p):
    if not is_whole(p) or p >= GREAT_PRIMES_FROM:
        return False
    if p == 0:
        return not have_zero(row, 0)
    return is_prime(p) and zero_by([free_of(k) for k in row], p, 4 if p == 2 else 2) is None


# As none of the other row's numbers is 0, a table that leads to it has a back.
def is_led(row, other, T):
    if not is_row(other) or len(other) != len(row) or not is_table(T, len(row)):
        return False
    return led(form_of_row(row), T) == form_of_row(other)


def is_led_by_steps(row, other, steps):
    if not is_row(other) or not isinstance(steps, list) or not all([is_like_step(step) for step in steps]):
        return False
    try:
        return row_behind(row, steps) == other
    except NoStep:
        return False


def has_pairs_ahead(row, k):
    if not is_whole(k) or not 0 <= 2 * k <= len(row):
        return False
    return all([row[2 * i] == -row[2 * i + 1] for i in range(k)])


def lets_two_by(row, kind, thing):
    if kind == "zero":
        return is_zero(row, thing)
    return kind == "none" and is_barred(row, thing)


def lets_three_by(row, kind, thing, last):
    if kind == "makes":
        return come_to(row, thing, last)
    if kind == "change":
        return is_led(row, thing, last)
    return kind == "steps" and is_led_by_steps(row, thing, last)


def lets_by(row, paper):
    refuse_no_row(row)
    if not isinstance(paper, tuple):
        return False
    if len(paper) == 2:
        return lets_two_by(row, paper[0], paper[1])
    if len(paper) == 3:
        return lets_three_by(row, paper[0], paper[1], paper[2])
    if len(paper) != 4 or paper[0] != "pairs":
        return False
    return is_led(row, paper[2], paper[3]) and has_pairs_ahead(paper[2], paper[1])
