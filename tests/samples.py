"""Numbers and tables for the tests, the same at every run, and a second way to reckon with them."""

from fractions import Fraction


class Source:
    """Whole numbers in a fixed order that looks like chance."""

    def __init__(self, seed):
        self.state = seed

    def word(self):
        self.state = (self.state * 6364136223846793005 + 1442695040888963407) % 2 ** 64
        return self.state >> 20

    def whole(self, low, high):
        """A word has 44 bits: a wide range takes as many words as it needs, so that all figures differ."""
        found = self.word()
        bits = 44
        while bits < (high - low).bit_length() + 20 and high - low >= 2 ** 40:
            found = found << 44 | self.word()
            bits += 44
        return low + found % (high - low + 1)

    def chosen(self, things):
        return things[self.whole(0, len(things) - 1)]

    def pair(self, size):
        return told(Fraction(self.whole(-size, size), self.whole(1, size)))

    def vector(self, n, size=9):
        return [self.pair(size) for _ in range(n)]

    def table(self, n, size=9):
        return [self.vector(n, size) for _ in range(n)]

    def form(self, n, size=9):
        """Now and then with noughts."""
        T = self.table(n, size)
        for i in range(n):
            for j in range(i, n):
                T[i][j] = (0, 1) if self.whole(0, 2) == 0 else T[i][j]
                T[j][i] = T[i][j]
        return T


def told(value):
    value = Fraction(value)
    return (value.numerator, value.denominator)


def known(pair):
    return Fraction(pair[0], pair[1])


def table_of(rows):
    return [[told(value) for value in row] for row in rows]


def is_fraction(thing):
    if type(thing) is not tuple or len(thing) != 2:
        return False
    if type(thing[0]) is not int or type(thing[1]) is not int or thing[1] < 1:
        return False
    return told(Fraction(thing[0], thing[1])) == thing


def is_table(thing, n):
    if type(thing) is not list or len(thing) != n:
        return False
    return all(type(row) is list and len(row) == n and all(map(is_fraction, row)) for row in thing)


def product_by_sums(one, other):
    n = len(one)
    return [[told(sum(known(one[i][k]) * known(other[k][j]) for k in range(n))) for j in range(n)] for i in range(n)]


def size_by_parts(T):
    """The size-number, opened along the first list, then the next, and so on; no list is ever divided."""
    found = {}

    def of_places(i, places):
        if not places:
            return Fraction(1)
        if places not in found:
            total = Fraction(0)
            for k, j in enumerate(places):
                total += (-1) ** k * known(T[i][j]) * of_places(i + 1, places[:k] + places[k + 1:])
            found[places] = total
        return found[places]

    return told(of_places(0, tuple(range(len(T)))))


def lists_in(thing):
    """All lists in a thing, itself too, by identity."""
    found = []
    if isinstance(thing, list):
        found.append(id(thing))
    if isinstance(thing, (list, tuple)):
        for part in thing:
            found.extend(lists_in(part))
    return found


def spoil(thing):
    """Changes every list in a thing."""
    if isinstance(thing, (list, tuple)):
        for part in thing:
            spoil(part)
    if isinstance(thing, list):
        for k in range(len(thing)):
            thing[k] = (77, 78)
        thing.append((79, 80))
