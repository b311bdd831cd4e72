"""Forms written as lines of text."""

from everyplace.errors import NoText
from everyplace.fractions import fraction, over, plus, times

FIGURES = "0123456789"
LETTERS = "abcdefghijklmnopqrstuvwxyz"
MOST_FIGURES = 9
MOST_UNKNOWNS = 8
# Python writes out whole numbers only up to some thousand figures: longer ones are written piece by piece.
PIECE = 1000000000


def read_number(text):
    if not 1 <= len(text) <= MOST_FIGURES or not all([sign in FIGURES for sign in text]):
        raise NoText("a number is written by one to nine figures")
    if text[0] == "0" and text != "0":
        raise NoText("a number above 0 doesn't begin with the figure 0")
    return int(text)


def read_fraction(text):
    pieces = text.partition("/")
    top = read_number(pieces[0])
    bottom = 1 if pieces[1] == "" else read_number(pieces[2])
    if bottom == 0:
        raise NoText("the bottom of a fraction is 0")
    return fraction(top, bottom)


def read_unknown(text):
    if len(text) != 1 or text not in LETTERS:
        raise NoText("an unknown is a letter from a to z")
    return text


# A tuple of the fraction and the two unknowns.
def read_term(text):
    pieces = text.split("*")
    if len(pieces) == 2:
        return ((1, 1), read_unknown(pieces[0]), read_unknown(pieces[1]))
    if len(pieces) == 3:
        return (read_fraction(pieces[0]), read_unknown(pieces[1]), read_unknown(pieces[2]))
    raise NoText("a term is a fraction and two unknowns, or two unknowns")


def signed(term, sign):
    if sign not in ("+", "-"):
        raise NoText("between two terms stands + or -, with a blank on each side")
    return term if sign == "+" else (times((-1, 1), term[0]), term[1], term[2])


# Between blanks there are in turn a term and a sign, first and last a term.
def read_terms(text):
    begins_below = text.startswith("-")
    pieces = (text[1:] if begins_below else text).split(" ")
    if len(pieces) % 2 == 0:
        raise NoText("a form ends with a term")
    signs = ["-" if begins_below else "+"] + pieces[1::2]
    return [signed(read_term(piece), sign) for piece, sign in zip(pieces[::2], signs)]


def letters_of(terms):
    found = []
    for term in terms:
        found.append(term[1])
        found.append(term[2])
    letters = "".join(sorted(set(found)))
    if len(letters) > MOST_UNKNOWNS:
        raise NoText("a form has at most eight unknowns")
    return letters


def read_form(text):
    terms = read_terms(text)
    letters = letters_of(terms)
    form = [[(0, 1)] * len(letters) for letter in letters]
    for term in terms:
        i = letters.index(term[1])
        j = letters.index(term[2])
        half = over(term[0], (2, 1))
        # Of a square both halves come to one place.
        form[i][j] = plus(form[i][j], half)
        form[j][i] = plus(form[j][i], half)
    return (letters, form)


def show_whole(k):
    pieces = []
    left = abs(k)
    while left >= PIECE:
        rest = left % PIECE
        pieces.append(str(rest).zfill(MOST_FIGURES))
        left = left // PIECE
    pieces.append(str(left))
    if k < 0:
        pieces.append("-")
    return "".join(reversed(pieces))


def show_fraction(u):
    if u[1] == 1:
        return show_whole(u[0])
    return show_whole(u[0]) + "/" + show_whole(u[1])


def show_term(number, first, second):
    ahead = "" if number == (1, 1) else show_fraction(number) + "*"
    return ahead + first + "*" + second


# The signs stand apart from the terms, with blanks but for the first.
def show_form(letters, form):
    text = ""
    for i in range(len(letters)):
        for j in range(i, len(letters)):
            number = form[i][j] if i == j else times((2, 1), form[i][j])
            if number[0] == 0:
                continue
            if text == "":
                text = "-" if number[0] < 0 else ""
            else:
                text = text + (" - " if number[0] < 0 else " + ")
            text = text + show_term((abs(number[0]), number[1]), letters[i], letters[j])
    return "0" if text == "" else text
