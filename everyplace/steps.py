"""Steps: changes of two unknowns of a row that leave it upright."""

from everyplace.errors import NoStep
from everyplace.fractions import fraction, is_fraction, times
from everyplace.primes import GREAT_FROM, free_of
from everyplace.rows import free_product, is_row_number, joined, refuse_no_row
from everyplace.tables import plain_table, product
from everyplace.whole import is_whole, square_root


# Whether any thing is of a step's kind; of which rows it is one is another question.
def is_like_step(thing):
    if not isinstance(thing, tuple) or len(thing) != 4:
        return False
    return is_whole(thing[0]) and is_whole(thing[1]) and is_fraction(thing[2]) and is_fraction(thing[3])


def made_of_two(a, b, x, y):
    top = a * x[0] * x[0] * y[1] * y[1] + b * y[0] * y[0] * x[1] * x[1]
    return fraction(top, x[1] * x[1] * y[1] * y[1])


def is_free(k):
    return is_row_number(k) and free_of(k) == k


# The numbers behind the step, at its two places.
def numbers_behind(row, step):
    i = step[0]
    j = step[1]
    if not 0 <= i < j < len(row):
        raise NoStep("a step has two places of the row, the lesser one first")
    made = made_of_two(row[i], row[j], step[2], step[3])
    if made[1] != 1 or not is_free(made[0]):
        raise NoStep("a step makes a whole number free of squares, below 2 to the 30")
    other = joined(free_product([row[i], row[j]]), made[0])
    if abs(other) >= GREAT_FROM:
        raise NoStep("the second number behind the step is not below 2 to the 30")
    return (made[0], other)


def row_with(row, step, numbers):
    answer = list(row)
    answer[step[0]] = numbers[0]
    answer[step[1]] = numbers[1]
    return answer


# The product of the two numbers and the first one behind the step is the second one times the square of a whole number:
# what is put to the second column is 1 over that.
def change_to(row, step, numbers):
    i = step[0]
    j = step[1]
    factor = (1, square_root(row[i] * row[j] * numbers[0] // numbers[1]))
    answer = plain_table(len(row))
    answer[i][i] = step[2]
    answer[j][i] = step[3]
    answer[i][j] = times((-row[j], 1), times(step[3], factor))
    answer[j][j] = times((row[i], 1), times(step[2], factor))
    return answer


def stepped(row, step):
    refuse_no_row(row)
    return row_with(row, step, numbers_behind(row, step))


def change_of(row, step):
    refuse_no_row(row)
    return change_to(row, step, numbers_behind(row, step))


# Without the changes, which may have many figures.
def row_behind(row, steps):
    answer = list(row)
    for step in steps:
        answer = row_with(answer, step, numbers_behind(answer, step))
    return answer


def all_stepped(row, steps):
    refuse_no_row(row)
    answer = list(row)
    table = plain_table(len(row))
    for step in steps:
        numbers = numbers_behind(answer, step)
        table = product(table, change_to(answer, step, numbers))
        answer = row_with(answer, step, numbers)
    return (answer, table)
