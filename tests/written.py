"""A second way to read forms that are written, and numbers."""

import re
from fractions import Fraction


def terms_by_pattern(text):
    """Tuples of a number and two letters."""
    found = []
    for sign, ahead, first, second in re.findall(r"(^-?|[+-] )(?:([0-9/]+)\*)?([a-z])\*([a-z])", text):
        found.append((Fraction(ahead or 1) * (-1 if sign.startswith("-") else 1), first, second))
    return found


def letters_in(text):
    return sorted(set(re.findall("[a-z]", text)))


def value_of_text(text, numbers):
    """What the form makes of these numbers, put to its letters as they rise."""
    values = dict(zip(letters_in(text), numbers, strict=True))
    return sum(number * values[first] * values[second] for number, first, second in terms_by_pattern(text))


def whole_numbers(text):
    """Of whole numbers with one blank between, just as they are shown."""
    found = [int(word) for word in text.split(" ")]
    assert " ".join(str(k) for k in found) == text
    return found


def fractions_in(text):
    found = [Fraction(word) for word in text.split(" ")]
    assert " ".join(str(u) for u in found) == text
    return found
