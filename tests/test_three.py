"""Promises 17 and 18: zeros of rows of two and three numbers, lines and points."""

import itertools
import math
import unittest

from everyplace.errors import FormError, NoRow, TooGreat
from everyplace.rows import first_without
from everyplace.three import line_of, point_of, zero_of_three, zero_of_two
from kept import check_nothing_changed_or_kept
from norows import JUST_ROWS, NO_ROWS
from samples import Source
from search import ABOVE_15, BELOW_15, BELOW_30, PRIMES, has_zero_at, made_of

GREAT = 2 ** 30


def check_zero(case, row, zero):
    case.assertIs(type(zero), list, row)
    case.assertEqual(len(zero), len(row))
    case.assertTrue(all(type(x) is int for x in zero))
    case.assertEqual(math.gcd(*zero), 1, row)
    case.assertEqual(made_of(row, zero), 0, row)


class TwoUnknowns(unittest.TestCase):
    def test_small(self):
        for a in range(-40, 41):
            for b in range(-40, 41):
                if a * b != 0:
                    root = math.isqrt(max(-a * b, 0))
                    if root * root == -a * b:
                        check_zero(self, [a, b], zero_of_two([a, b]))
                    else:
                        self.assertIsNone(zero_of_two([a, b]), (a, b))

    def test_great(self):
        for row in ([BELOW_30, -BELOW_30], [1 - GREAT, GREAT - 1], [BELOW_15 ** 2, -32719 ** 2], [2 ** 29, -2],
                    [-3 * 10 ** 8, 27], [-7 * 10001 ** 2, 7 * 9999 ** 2], [1, -BELOW_15 ** 2]):
            check_zero(self, row, zero_of_two(row))

    def test_none_and_never_too_great(self):
        for row in ([BELOW_30, -536870909], [BELOW_30, BELOW_30], [1 - GREAT, GREAT - 2], [-1, -1], [1, 1], [2, -1],
                    [2 ** 29, -1], [-BELOW_30, 1], [BELOW_30, -1000003]):
            self.assertIsNone(zero_of_two(row))

    def test_no_row(self):
        for row in NO_ROWS:
            with self.assertRaises(NoRow, msg=row):
                zero_of_two(row)

    def test_just_rows(self):
        for row in JUST_ROWS:
            if len(row) == 2:
                self.assertIsNone(zero_of_two(row))


def known_zeros(seed, count):
    """Rows of three great numbers that have a zero, x x + b y y being taken for minus the third."""
    source = Source(seed)
    found = []
    while len(found) < count:
        sign = source.chosen([1, -1])
        x, y, z = source.whole(1, 20000), source.whole(1, 6), source.whole(1, 9)
        b = source.whole(1, 2 ** 27) * source.chosen([1, -1])
        c = -(sign * x * x + b * y * y)
        if c % (z * z) == 0:
            c //= z * z
        if c != 0 and abs(c) < GREAT:
            found.append([sign, b, c])
    return found


def at_each_place(row):
    places = [0] + [p for p in PRIMES[:12] if (2 * math.prod(row)) % p == 0]
    return all(has_zero_at(row, p) for p in places)


class ThreeUnknowns(unittest.TestCase):
    def check(self, row, has):
        zero = zero_of_three(row)
        if has:
            check_zero(self, row, zero)
        else:
            self.assertIsNone(zero, row)

    def test_told_by_hand(self):
        for row in ([1, 1, -1], [1, 1, -2], [1, -1, 5], [2, 3, -5], [1, -2, -7], [-1, 3, 6], [4, 9, -25], [3, -2, -1]):
            self.check(row, True)
        for row in ([1, 1, 1], [-1, -2, -3], [1, 1, -3], [1, -2, 3], [3, -2, 7], [1, 1, -7], [2, 5, -1], [-1, -1, 7]):
            self.check(row, False)

    def test_small_told_or_none_as_the_places_say(self):
        numbers = [k for k in range(-11, 12) if k != 0]
        for row in itertools.product(numbers, [1, -1, 2, -3, 5, -6, 7, 10], [1, -2, 3, -5, 11]):
            self.check(list(row), at_each_place(row))

    def test_squares_and_common_divisors(self):
        for row in itertools.product([4, -9, 12, 18, -50], [8, -27, 45, -4], [-16, 20, 75, 6]):
            self.check(list(row), at_each_place(row))
        for row in ([6, 10, 15], [6, 10, -15], [30, -42, 70], [-6, 15, 21], [4, 4, -8], [49, 49, -98], [7, 7, -14]):
            self.check(row, at_each_place(row))

    def test_a_little_greater(self):
        source = Source(110)
        for _ in range(400):
            row = [source.whole(1, 37) * source.chosen([1, -1]) for _ in range(3)]
            self.check(row, at_each_place(row))

    def test_great(self):
        for row in known_zeros(111, 120):
            self.check(row, True)
            self.check([row[0], row[2], row[1]], True)

    def test_great_as_the_places_say(self):
        source = Source(112)
        told = 0
        for _ in range(400):
            row = [source.chosen([1,
                                  -1, 2, 3])] + [source.whole(2 ** 20, 2 ** 28) * source.chosen([1, -1]) for _ in "bc"]
            has = first_without(row) is None
            told += has
            self.check(row, has)
        self.assertTrue(told > 3)

    def test_great_primes(self):
        for p in (BELOW_30, 536870909, 1000000007, 998244353, 1000003):
            self.check([1, -p, p - 1 if p < GREAT else 1], True)
            self.check([1, p, -p], True)
            self.check([p, p, -2 * p] if 2 * p < GREAT else [p, p, -p], True)
            self.check([p, -p, 1], True)
            self.check([1, 1, -p], p % 4 == 1)
            self.check([1, 2, -p], p % 8 in (1, 3))
            self.check([-p, 1, 1], p % 4 == 1)

    def test_great_with_great_common_divisors(self):
        for g in (1000003, 2 ** 20, 30030 * 17):
            self.check([2 * g, 3 * g, -5 * g], True)
            self.check([g, g, -3 * g], False)
            self.check([101 * g, -g, -100 * g], True)

    def test_too_great_where_due(self):
        self.assertTrue(issubclass(TooGreat, FormError))
        for row in ([BELOW_30, 2, -1], [2, BELOW_30, -1], [2, -1, BELOW_30], [BELOW_30, -1, 2], [-3, 1, 536870909],
                    [BELOW_30, -536870909, 1], [ABOVE_15, 32779, -1], [ABOVE_15, -1, 32779], [BELOW_30, -BELOW_30, 2]):
            with self.assertRaises(TooGreat, msg=row):
                zero_of_three(row)

    def test_too_great_ahead_of_none(self):
        for row in ([BELOW_30, 2, 1], [-2, -BELOW_30, -1], [2, 1, BELOW_30], [ABOVE_15, 32779, 1], [BELOW_30, 3, 7]):
            self.assertEqual(first_without(row), 0)
            with self.assertRaises(TooGreat, msg=row):
                zero_of_three(row)

    def test_too_great_only_where_due(self):
        # The second times the third doesn't count, nor do squares, nor a great prime that stands in two numbers.
        self.check([1, BELOW_30, -536870909], first_without([1, BELOW_30, -536870909]) is None)
        self.check([1, BELOW_30, 536870909], False)
        self.check([BELOW_30, BELOW_30, 1], False)
        self.check([BELOW_30, -BELOW_30, 1], True)
        self.check([BELOW_30, -BELOW_30, BELOW_30], True)
        self.check([ABOVE_15, BELOW_15, 1], False)
        self.check([ABOVE_15, BELOW_15, -1], first_without([ABOVE_15, BELOW_15, -1]) is None)
        self.check([BELOW_15 ** 2, -1, BELOW_30], True)
        self.check([2 ** 28, -1, BELOW_30], True)
        self.check([3 * 2 ** 28, -3, 1000003], True)

    def test_no_row_ahead_of_all(self):
        for row in NO_ROWS + ([BELOW_30, 2, True], [BELOW_30, 2, 0], [BELOW_30, 2, GREAT]):
            with self.assertRaises(NoRow, msg=row):
                zero_of_three(row)


ROWS = (
    [1, 1, -1], [1, 1, -2], [1, -1, 5], [5, 1, -1], [1, 5, -1], [2, 3, -5], [-1, 3, 6], [4, 9, -25], [1, -2, -7],
    [-3, 2, 1], [6, -10, 4], [12, -3, 7],
)


def points_within(row, size):
    """All points of a row with small numbers, by trying."""
    found = []
    for x, y, z in itertools.product(range(size + 1), range(-size, size + 1), range(-size, size + 1)):
        if (x, y, z) > (0, 0, 0) and math.gcd(x, y, z) == 1 and made_of(row, (x, y, z)) == 0:
            found.append([x, y, z])
    return found


def lines_within(size):
    return [(s, t) for s in range(size + 1) for t in range(-size, size + 1) if math.gcd(s, t) == 1 and (s, t) > (0, 0)]


def great_lines(count=12):
    source = Source(113)
    found = [(10 ** 12 - 1, 10 ** 12 - 2), (10 ** 12 - 1, 2 - 10 ** 11), (1, 10 ** 12 - 1), (10 ** 12 - 1, -1)]
    while len(found) < count:
        s, t = source.whole(1, 10 ** 12 - 1), source.whole(1 - 10 ** 12, 10 ** 12 - 1)
        if math.gcd(s, t) == 1:
            found.append((s, t))
    return found


def point_by_letter(row, zero, line):
    """A whole multiple of the point."""
    h = next(i for i in range(3) if zero[i] != 0)
    direction = list(line[:h]) + [0] + list(line[h:])
    made = made_of(row, direction)
    met = sum(a * z * d for a, z, d in zip(row, zero, direction))
    return [made * z - 2 * met * d for z, d in zip(zero, direction)]


class LinesAndPoints(unittest.TestCase):
    def check_point(self, row, zero, line):
        point = point_of(row, zero, line)
        check_zero(self, row, point)
        self.assertTrue(next(x for x in point if x != 0) > 0)
        multiple = point_by_letter(row, zero, line)
        h = next(i for i in range(3) if point[i] != 0)
        self.assertEqual([multiple[h] * x for x in point], [point[h] * m for m in multiple])
        self.assertNotEqual(multiple, [0, 0, 0])
        return point

    def check_line(self, row, zero, point):
        line = line_of(row, zero, point)
        self.assertIs(type(line), tuple)
        self.assertEqual((len(line), type(line[0]), type(line[1])), (2, int, int))
        self.assertEqual(math.gcd(*line), 1)
        self.assertTrue(line > (0, 0))
        return line

    def test_told_by_hand(self):
        self.assertEqual(point_of([1, 1, -1], [1, 0, 1], (1, 0)), [1, 0, 1])
        self.assertEqual(point_of([1, 1, -1], [1, 0, 1], (0, 1)), [1, 0, -1])
        self.assertEqual(point_of([1, 1, -1], [1, 0, 1], (1, 1)), [0, 1, 1])
        self.assertEqual(point_of([1, 1, -1], [0, 1, 1], (1, 2)), [4, -3, 5])
        self.assertEqual(line_of([1, 1, -1], [1, 0, 1], [1, 0, 1]), (1, 0))
        self.assertEqual(line_of([1, 1, -1], [1, 0, 1], [1, 0, -1]), (0, 1))
        self.assertEqual(line_of([1, 1, -1], [1, 0, 1], [0, 1, 1]), (1, 1))
        self.assertEqual(line_of([1, 1, -1], [0, 1, 1], [4, -3, 5]), (1, 2))

    def test_lines_to_points_and_back(self):
        for row in ROWS:
            for zero in points_within(row, 9)[:6]:
                for z in (zero, [-x for x in zero]):
                    points = []
                    for line in lines_within(6):
                        point = self.check_point(row, z, line)
                        self.assertEqual(line_of(row, z, point), line, (row, z))
                        points.append(tuple(point))
                    self.assertEqual(len(points), len(set(points)))

    def test_points_to_lines_and_back(self):
        for row in ROWS:
            points = points_within(row, 20)
            self.assertTrue(points, row)
            for zero in points[:5] + points[-2:]:
                lines = []
                for point in points:
                    line = self.check_line(row, zero, point)
                    self.assertEqual(point_of(row, zero, line), point, (row, zero))
                    lines.append(line)
                self.assertEqual(len(lines), len(set(lines)))

    def test_noughts_among_the_numbers(self):
        for row, zero in (([1, -1, 5], [1, 1, 0]), ([1, 5, -1], [1, 0, 1]), ([5, 1, -1], [0, 1, 1]),
                          ([5, 4, -9], [0, 3, 2]), ([1, -1, 5], [1, -1, 0]), ([5, 1, -1], [0, -1, 1])):
            for line in lines_within(5) + great_lines():
                point = self.check_point(row, zero, line)
                self.assertEqual(line_of(row, zero, point), line)

    def test_the_zero_itself(self):
        for row in ROWS:
            for zero in points_within(row, 9)[:6]:
                line = self.check_line(row, zero, zero)
                self.assertEqual(point_of(row, zero, line), zero)
                turned = [-x for x in zero]
                self.assertEqual(line_of(row, turned, zero), line)
                self.assertEqual(point_of(row, turned, line), zero)

    def test_twelve_figures(self):
        for row in ROWS:
            zero = points_within(row, 9)[0]
            for line in great_lines():
                self.assertEqual(line_of(row, zero, self.check_point(row, zero, line)), line)

    def test_great_rows(self):
        for row in known_zeros(114, 20):
            zero = zero_of_three(row)
            for line in lines_within(2) + great_lines(6):
                point = self.check_point(row, zero, line)
                self.assertEqual(line_of(row, zero, point), line)
                self.assertEqual(line_of(row, point, point_of(row, point, line)), line)

    def test_no_row(self):
        for row in NO_ROWS:
            with self.assertRaises(NoRow, msg=row):
                point_of(row, [1, 0, 1], (1, 0))
            with self.assertRaises(NoRow, msg=row):
                line_of(row, [1, 0, 1], [1, 0, 1])


class NothingChangedOrKept(unittest.TestCase):
    def test_all(self):
        for row in ROWS + ([1, 1, 1], [1, 1, -3]):
            check_nothing_changed_or_kept(self, zero_of_three, [row])
        for row in ([1, -4], [1, 1], [-9, 1], [2, -2]):
            check_nothing_changed_or_kept(self, zero_of_two, [row])
        for row in ROWS:
            zero, point = points_within(row, 9)[0], points_within(row, 20)[-1]
            for line in ((1, 0), (0, 1), (3, -2)):
                check_nothing_changed_or_kept(self, point_of, [row, zero, line])
            check_nothing_changed_or_kept(self, line_of, [row, zero, point])
            check_nothing_changed_or_kept(self, line_of, [row, zero, list(zero)])
            check_nothing_changed_or_kept(self, line_of, [row, zero, zero])


if __name__ == "__main__":
    unittest.main()
