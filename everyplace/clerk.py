"""A clerk, who has a form, is told rows of text, and answers each by a text."""

from everyplace.alike import parting
from everyplace.errors import NoText, TooGreat
from everyplace.forms import upright
from everyplace.fractions import over
from everyplace.pairs import how_many_pairs
from everyplace.primes import GREAT_FROM, freed
from everyplace.rows import first_barring, first_without, noes_of, number_of
from everyplace.tables import at, column
from everyplace.texts import read_form, read_number, show_fraction, show_whole
from everyplace.three import zero_of_three, zero_of_two
from everyplace.zeros import made_whole, refuse_great, values_of_small, zero_of

FIRST_FORM = "x*x"


# A number that is not 0, perhaps with - ahead.
def read_asked(text):
    number = read_number(text[1:] if text.startswith("-") else text)
    if number == 0:
        raise NoText("0 is not asked for")
    return -number if text.startswith("-") else number


# Freed of squares, with the fraction whose square is put to it; 0 stays.
def freed_or_nought(u):
    if u == (0, 1):
        return (0, (1, 1))
    answer = freed(u)
    if abs(answer[0]) >= GREAT_FROM:
        raise TooGreat("a number of the form turned upright, freed of squares, is not below 2 to the 30")
    return answer


# A tuple of the row, the fractions whose squares are put to its numbers, and the change to these.
def opened(form):
    answer = upright(form)
    known = [freed_or_nought(u) for u in answer[0]]
    return ([one[0] for one in known], [one[1] for one in known], answer[1])


def without_noughts(row):
    return [k for k in row if k != 0]


def show_all(numbers):
    return " ".join([show_whole(k) for k in numbers])


# Two is never too great, three by its own bounds, and more where all numbers are small.
def zero_of_any(row):
    if len(row) == 2:
        return zero_of_two(row)
    return zero_of_three(row) if len(row) == 3 else zero_of(row)


# Values of the row's unknowns, those of noughts being left out, as ones of the unknowns that were written.
def as_written(values, roots, change):
    found = [over(u, root) for u, root in zip(values, roots)]
    return at(change, found + [(0, 1)] * (len(roots) - len(found)))


def zero_in(row, roots, change):
    if 0 in row:
        return made_whole(column(change, row.index(0)))
    return made_whole(as_written([(x, 1) for x in zero_of_any(row)], roots, change))


def tell_zero(row, roots, change):
    place = None if 0 in row else first_without(row)
    if place is not None:
        return f"none {place}"
    return "zero " + show_all(zero_in(row, roots, change))


def tell_makes(row, roots, change, c):
    numbers = without_noughts(row)
    # Of noughts alone this is one number, and so has no zero at 0.
    place = first_barring(numbers + [-c])
    if place is not None:
        return f"none {place}"
    refuse_great(numbers + [c])
    values = as_written(values_of_small(numbers, c), roots, change)
    return " ".join(["makes"] + [show_fraction(u) for u in values])


def tell_alike(row, form):
    if len(form) != len(row):
        return "size"
    numbers = without_noughts(row)
    others = without_noughts(opened(form)[0])
    if len(numbers) != len(others):
        return "noughts"
    apart = parting(numbers, others) if len(numbers) > 0 else None
    if apart is None:
        return "alike"
    return " ".join([str(thing) for thing in apart])


def tell_signs(numbers):
    return show_whole(len([k for k in numbers if k > 0]))


# Of noughts alone no number is left; what is left is then no row.
def tell_number(numbers):
    return show_whole(number_of(numbers)) if len(numbers) > 0 else "1"


def tell_noes(numbers):
    noes = noes_of(numbers) if len(numbers) > 0 else []
    return show_all(noes) if len(noes) > 0 else "-"


def tell_pairs(numbers):
    return show_whole(how_many_pairs(numbers)) if len(numbers) > 0 else "0"


# What is refused changes nothing: all is reckoned ahead of what is kept.
class Clerk:
    def __init__(self):
        self.keep(read_form(FIRST_FORM)[1])

    def keep(self, form):
        known = opened(form)
        self.row = known[0]
        self.roots = known[1]
        self.change = known[2]
        return show_all(known[0])

    def say(self, row):
        pieces = row.partition(" ")
        if pieces[1] == "":
            return self.tell_one_word(row)
        if pieces[0] == "form":
            return self.keep(read_form(pieces[2])[1])
        if pieces[0] == "makes":
            return tell_makes(self.row, self.roots, self.change, read_asked(pieces[2]))
        if pieces[0] == "alike":
            return tell_alike(self.row, read_form(pieces[2])[1])
        raise NoText("this is not asked of a clerk")

    def tell_one_word(self, word):
        numbers = without_noughts(self.row)
        if word == "row":
            return show_all(self.row)
        if word == "zero":
            return tell_zero(self.row, self.roots, self.change)
        if word == "signs":
            return tell_signs(numbers)
        if word == "number":
            return tell_number(numbers)
        if word == "noes":
            return tell_noes(numbers)
        if word == "pairs":
            return tell_pairs(numbers)
        raise NoText("this is not asked of a clerk")
