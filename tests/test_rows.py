"""Promises 13 to 16: rows, the places where they have zeros, zeros by powers, and numbers made at places."""

import itertools
import math
import unittest

from everyplace.errors import FormError, NoRow, TooGreat
from everyplace.places import all_noes, says
from everyplace.rows import first_without, makes_at, noes_of, number_of, signs_of, zero_at, zero_by
from kept import check_nothing_changed_or_kept
from norows import JUST_ROWS, NO_ROWS
from samples import Source
from search import (ABOVE_15, BELOW_15, BELOW_30, PRIMES, free_by_trying, has_zero_at, has_zero_by, made_of, squarefree)

GREAT = 2 ** 30
GREAT_PRIMES = (BELOW_30, 536870909, 1000003, 1000000007, ABOVE_15, 998244353)
SMALL = (2, 3, 5, 7)


def rows(seed, count, size, longest=8, shortest=1, free=False):
    """Rows of each length, the same at every run."""
    source = Source(seed)
    found = []
    for length in range(shortest, longest + 1):
        for _ in range(count):
            row = [source.whole(1, size) * source.chosen([1, -1]) for _ in range(length)]
            found.append([free_by_trying(k) for k in row] if free else row)
    return found


def all_asked(row):
    """Each function of the stage, with a row that may be none."""
    return ((number_of, [row]), (signs_of, [row]), (noes_of, [row]), (zero_at, [row, 0]), (zero_at, [row, 3]),
            (first_without, [row]), (zero_by, [row, 2, 5]), (zero_by, [row, 3, 1]), (makes_at, [row, 1, 0]),
            (makes_at, [row, 5, 2]))


class NoRows(unittest.TestCase):
    def test_each_function_refuses_what_is_no_row(self):
        self.assertTrue(issubclass(NoRow, FormError))
        for row in NO_ROWS:
            for function, handed in all_asked(row):
                with self.assertRaises(NoRow, msg=(function, row)):
                    function(*handed)

    def test_what_is_just_a_row(self):
        for row in JUST_ROWS:
            for function, handed in all_asked(row):
                if function is number_of and abs(math.prod(row)) >= 2 ** 60:
                    continue
                if function is zero_by and not all(map(squarefree, row)):
                    continue
                function(*handed)

    def test_no_row_goes_ahead_of_too_great(self):
        for row in ([BELOW_30, 536870909, 1000003, True], [BELOW_30, 536870909, 1000003, GREAT]):
            with self.assertRaises(NoRow):
                number_of(row)


class NumberAndSigns(unittest.TestCase):
    def test_told_by_hand(self):
        self.assertEqual(number_of([1]), 1)
        self.assertEqual(number_of([-12]), -3)
        self.assertEqual(number_of([2, 3, -6]), -1)
        self.assertEqual(number_of([2, 3, 5]), 30)
        self.assertEqual(number_of([-1] * 8), 1)
        self.assertEqual(number_of([-1] * 7), -1)
        self.assertEqual(number_of([4, 9, 18]), 2)

    def test_freed_of_squares(self):
        for row in rows(61, 40, 60):
            number = number_of(row)
            self.assertEqual(number, free_by_trying(math.prod(row)), row)
            self.assertIs(type(number), int)

    def test_great(self):
        self.assertEqual(number_of([BELOW_30]), BELOW_30)
        self.assertEqual(number_of([BELOW_30, -536870909]), -BELOW_30 * 536870909)
        self.assertEqual(number_of([BELOW_30, 7, -BELOW_30]), -7)
        self.assertEqual(number_of([2 ** 29] * 7), 2)
        # The product is not tame here, but its number is told.
        self.assertEqual(number_of([ABOVE_15, 1000003, 2, 18]), ABOVE_15 * 1000003)
        self.assertEqual(number_of([BELOW_30, 536870909, 1000003, BELOW_30, 536870909]), 1000003)
        self.assertEqual(number_of([BELOW_30, 536870909] * 4), 1)
        self.assertEqual(number_of([-(GREAT - 1), GREAT - 3]), -free_by_trying(GREAT - 1) * (GREAT - 3))

    def test_too_great_just_from_two_to_the_sixty_on(self):
        left = (2 ** 60 - 1) // (BELOW_30 * 1000003)
        below = max(p for p in PRIMES if p <= left)
        above = min(p for p in PRIMES if p > left)
        for sign in (1, -1):
            self.assertEqual(number_of([BELOW_30, 1000003, sign * below]), sign * BELOW_30 * 1000003 * below)
            with self.assertRaises(TooGreat):
                number_of([BELOW_30, 1000003, sign * above])
        for row in ([BELOW_30, 536870909, 7], [-BELOW_30, 536870909, 1000003], [-1] + list(GREAT_PRIMES)):
            with self.assertRaises(TooGreat):
                number_of(row)

    def test_great_on_the_way_only(self):
        row = [BELOW_30, 536870909, 1000003, 1000000007]
        self.assertEqual(number_of(row + row), 1)
        self.assertEqual(number_of(row + row[1:]), BELOW_30)

    def test_signs(self):
        self.assertEqual(signs_of([1]), 1)
        self.assertEqual(signs_of([-1]), 0)
        for row in rows(62, 20, 2 ** 30 - 1):
            self.assertEqual(signs_of(row), sum(k > 0 for k in row))
            self.assertIs(type(signs_of(row)), int)
        self.assertEqual(signs_of(list(GREAT_PRIMES)), 6)


def noes_by_pairs(row, places):
    return [p for p in places if sum(not says(a, b, p) for a, b in itertools.combinations(row, 2)) % 2 == 1]


class Noes(unittest.TestCase):
    def test_told_by_hand(self):
        self.assertEqual(noes_of([5]), [])
        self.assertEqual(noes_of([-1, -1]), [0, 2])
        self.assertEqual(noes_of([1, 1, 1]), [])
        self.assertEqual(noes_of([-1, -1, -1]), [0, 2])
        self.assertEqual(noes_of([-1, -1, -1, -1]), [])
        self.assertEqual(noes_of([2, 3]), [2, 3])

    def test_rows_of_one_and_two(self):
        for row in rows(63, 40, 2 ** 30 - 1, 2):
            self.assertEqual(noes_of(row), all_noes(row[0], row[1]) if len(row) == 2 else [])

    def test_odd_number_of_pairs(self):
        for row in rows(64, 25, 100):
            places = [0] + PRIMES[:30]
            noes = noes_of(row)
            self.assertIs(type(noes), list)
            self.assertEqual(noes, noes_by_pairs(row, places), row)
            self.assertEqual(len(noes) % 2, 0)

    def test_great_primes(self):
        source = Source(65)
        for length in range(1, 9):
            for _ in range(8):
                row = [source.chosen([1, -1]) * source.chosen(GREAT_PRIMES) for _ in range(length)]
                self.assertEqual(noes_of(row), noes_by_pairs(row, [0] + sorted((2,) + GREAT_PRIMES)))
        self.assertEqual(noes_of([3, 1000003, -1]), noes_by_pairs([3, 1000003, -1], [0, 2, 3, 1000003]))

    def test_order_and_squares_change_nothing(self):
        for row in rows(66, 6, 50):
            self.assertEqual(noes_of(list(reversed(row))), noes_of(row))
            self.assertEqual(noes_of([k * 49 for k in row]), noes_of(row))


class ZeroAt(unittest.TestCase):
    def check(self, row, p):
        self.assertIs(zero_at(row, p), has_zero_at(row, p), (row, p))

    def test_at_nought(self):
        for row in rows(67, 20, 2 ** 30 - 1):
            self.check(row, 0)
        for n in range(1, 9):
            self.assertIs(zero_at([3] * n, 0), False)
            self.assertIs(zero_at([-3] * n, 0), False)
            self.assertIs(zero_at([3] * (n - 1) + [-1], 0), n > 1)

    def test_small_rows_by_powers(self):
        for p in SMALL:
            numbers = [1, -1, 2, 3, -5, 6, p, -p, 2 * p]
            for length in (1, 2, 3):
                for row in itertools.product(numbers, repeat=length):
                    self.check(list(row), p)

    def test_rows_of_four(self):
        for p in SMALL:
            for row in itertools.combinations_with_replacement([1, -1, 2, 3, 5, -7, 10, p, -3 * p], 4):
                self.check(list(row), p)

    def test_rows_of_all_lengths(self):
        for row in rows(68, 12, 30):
            for p in SMALL + (11,):
                self.check(row, p)

    def test_squares_in_the_numbers(self):
        for row in ([4, 1], [-4, 1], [1, 1, 4], [1, 2, 4], [3, 3, 12], [9, 1, 1], [9, 3, 1], [1, 1, 9, 9],
                    [2, 8, 32, 1],
                    [16, -3, 5], [27, 1, 1], [27, 2, 1], [1, 1, 1, 4], [1, 1, 1, 28], [25, 2, 5, 10]):
            for p in SMALL:
                self.check(row, p)

    def test_four_that_have_none(self):
        for row, p in (([1, 1, 1, 1], 2), ([1, 1, 3, 3], 3), ([1, -2, 5, -10], 5), ([1, 1, 7, 7], 7),
                       ([1, 1, 2, 2], 2)):
            self.check(row, p)
            if p != 2:
                self.assertIs(zero_at(row, p), False)
        self.assertIs(zero_at([1, 1, 1, 1], 2), False)
        self.assertIs(zero_at([1, 1, 1, 7], 2), True)

    def test_great_primes(self):
        for p in GREAT_PRIMES:
            no = next(k for k in range(2, 99) if pow(k, (p - 1) // 2, p) == p - 1)
            self.assertIs(zero_at([p], p), False)
            self.assertIs(zero_at([-1, 1], p), True)
            self.assertIs(zero_at([-no, 1], p), False)
            self.assertIs(zero_at([p, 1], p), False)
            self.assertIs(zero_at([-p, p], p), True)
            self.assertIs(zero_at([1, -no, p], p), False)
            self.assertIs(zero_at([1, -1, p], p), True)
            self.assertIs(zero_at([1, 1, 1], p), True)
            # A fourth with p in it is -no times p up to squares; where that is beyond a row's numbers, -1 may do.
            if no * p < GREAT:
                self.assertIs(zero_at([1, -no, p, -no * p], p), False)
                self.assertIs(zero_at([1, -no, p, no * p], p), p % 4 == 3)
            if p % 4 == 3:
                self.assertIs(zero_at([1, 1, p, p], p), False)
            self.assertIs(zero_at([1, -no, p, -p], p), True)
            self.assertIs(zero_at([1, -no, p, p, p], p), True)

    def test_five_and_more(self):
        for row in rows(69, 6, 2 ** 30 - 1, 8, 5):
            for p in (2, 3, 5, 1009) + GREAT_PRIMES:
                self.assertIs(zero_at(row, p), True)


def square_by_prime(a, p):
    return a % 8 == 1 if p == 2 else pow(a, (p - 1) // 2, p) == 1


def squares_at_all_before(count=11):
    """Numbers that are no squares, each with the first prime at which that shows; another prime for each."""
    first = {}
    # What is to pass by 2 and 3 leaves 1 by 24.
    for a in itertools.chain((3, 17), itertools.count(1, 24)):
        if len(first) == count:
            return [(a, q) for q, a in first.items()]
        q = next((p for p in PRIMES[:40] if not square_by_prime(a, p)), None)
        if q is not None and a % q != 0:
            first.setdefault(q, a)


class FirstWithout(unittest.TestCase):
    def check(self, row):
        places = [0] + PRIMES[:60]
        wanted = next((p for p in places if not zero_at(row, p)), None)
        answer = first_without(row)
        self.assertEqual(answer, wanted, row)
        self.assertIsNot(type(answer), bool)

    def test_told_by_hand(self):
        self.assertEqual(first_without([1]), 0)
        self.assertEqual(first_without([-5]), 0)
        self.assertEqual(first_without([1, 1]), 0)
        self.assertEqual(first_without([1, -2]), 2)
        self.assertEqual(first_without([1, -17]), 3)
        self.assertIsNone(first_without([1, -9]))
        self.assertIsNone(first_without([2, -2]))
        self.assertEqual(first_without([1, 1, -3]), 2)
        self.assertEqual(first_without([1, -2, 3]), 2)
        self.assertIsNone(first_without([1, 1, -2]))
        self.assertEqual(first_without([1, 1, 1, -7]), 2)
        self.assertIsNone(first_without([1, 1, 1, -1]))
        self.assertIsNone(first_without([1, 1, 1, 1, -1]))
        self.assertEqual(first_without([1] * 5), 0)
        self.assertEqual(first_without([-2] * 8), 0)

    def test_small_rows(self):
        for row in rows(70, 120, 40):
            self.check(row)
        for a in range(1, 60):
            self.check([a, -1])
            self.check([-a, 7])

    def test_two_of_which_any_prime_may_be_first(self):
        for a in range(1, 9000, 24):
            self.check([-a, 1])
        for a, q in squares_at_all_before():
            self.assertEqual(first_without([-a, 1]), q)
            self.assertEqual(first_without([4, -a]), q)

    def test_two_great(self):
        for row in ([BELOW_30, -BELOW_30], [BELOW_30, -536870909], [-(GREAT - 1), GREAT - 2], [2 ** 29, -2],
                    [2 ** 29, -1], [-120293879, 1], [131486759, -1], [BELOW_15 ** 2, -1], [BELOW_15 ** 2, -ABOVE_15]):
            self.check(row)
        self.assertIsNone(first_without([BELOW_15 ** 2, -32719 ** 2]))

    def test_three_and_four_great(self):
        for p in GREAT_PRIMES:
            no = next(k for k in PRIMES if pow(k, (p - 1) // 2, p) == p - 1)
            for row in ([1, -no, p], [-1, no, p], [-p, no, 1], [p, -p, 1], [1, -no, p, -p]):
                answer = first_without(row)
                barring = [q for q in sorted({0, 2, no, p}) if not zero_at(row, q)]
                self.assertEqual(answer, barring[0] if barring else None, row)
        # The one prime here bars the row, which all places before it let by.
        self.assertEqual(first_without([1, -2, 5]), 2)
        self.assertEqual(first_without([1, 1, -21]), 3)
        self.assertEqual(first_without([7, 7, -3]), 3)

    def test_it_bars_by_a_power(self):
        for row in rows(71, 60, 30, 4, 2, free=True):
            p = first_without(row)
            if p is not None and 0 < p < 24:
                self.assertFalse(has_zero_by(row, p, 4 if p == 2 else 2), row)


class ZeroBy(unittest.TestCase):
    def check_zero(self, row, p, k, answer):
        self.assertIs(type(answer), list)
        self.assertEqual(len(answer), len(row))
        for x in answer:
            self.assertTrue(type(x) is int and 0 <= x < p ** k, (row, p, k))
        self.assertTrue(any(x % p != 0 for x in answer), (row, p, k))
        self.assertEqual(made_of(row, answer) % p ** k, 0, (row, p, k))

    def check(self, row, p, k, wanted):
        answer = zero_by(row, p, k)
        if wanted:
            self.check_zero(row, p, k, answer)
        else:
            self.assertIsNone(answer, (row, p, k))

    def test_small_by_trying(self):
        for p, top in ((2, 7), (3, 4), (5, 3), (7, 2), (11, 2), (13, 2)):
            for row in rows(72 + p, 10, 60, 8, 1, free=True):
                for k in range(1, top + 1):
                    self.check(row, p, k, has_zero_by(row, p, k))

    def test_all_rows_of_few_numbers(self):
        for p, top in ((2, 6), (3, 3), (5, 2)):
            numbers = [k for k in (1, -1, 2, 3, 5, -6, 7, 10, p, -2 * p) if squarefree(k)]
            for length in (1, 2, 3):
                for row in itertools.product(numbers, repeat=length):
                    for k in range(1, top + 1):
                        self.check(list(row), p, k, has_zero_by(row, p, k))

    def test_high_powers(self):
        for p in (2, 3, 5, 7, 101, 181, 32719, BELOW_15):
            for row in rows(80 + p, 3, 2 ** 30 - 1, 8, 1, free=True) + rows(90 + p, 6, 30, 5, 1, free=True):
                for k in range(1, 13):
                    if k >= (4 if p == 2 else 2):
                        self.check(row, p, k, zero_at(row, p))
                    elif zero_at(row, p):
                        self.check(row, p, k, True)

    def test_p_in_the_numbers(self):
        for p in (3, 5, 7, 101, 32719, BELOW_15):
            no = next(k for k in PRIMES if pow(k, (p - 1) // 2, p) == p - 1)
            for k in (1, 2, 3, 12):
                self.check([p], p, k, k == 1)
                self.check([1], p, k, False)
                self.check([p, -p], p, k, True)
                self.check([p, 1], p, k, k == 1)
                self.check([1, -no, p], p, k, k == 1)
                self.check([1, -no], p, k, False)
                self.check([1, -no, p, -p], p, k, True)
                self.check([1, -no, -p, p * no] if squarefree(p * no) else [1, -no, -p], p, k, k == 1)
                self.check([p, 2 * p, -3 * p] if p > 3 else [p, p, p], p, k, True)

    def test_by_two(self):
        for k in range(1, 13):
            self.check([1], 2, k, False)
            self.check([2], 2, k, k == 1)
            self.check([1, 1], 2, k, k == 1)
            self.check([1, 3], 2, k, k <= 2)
            self.check([1, 7], 2, k, True)
            self.check([2, -2], 2, k, True)
            self.check([1, 1, 1], 2, k, k == 1)
            self.check([1, 1, 1, 1], 2, k, k <= 2)
            self.check([1, 1, 2], 2, k, k <= 2)
            self.check([1] * 5, 2, k, True)
            self.check([2, 2, 2, 2, 1], 2, k, True)
            self.check([-1] * 8, 2, k, True)


class MakesAt(unittest.TestCase):
    def test_told_by_hand(self):
        self.assertIs(makes_at([1], 4, 0), True)
        self.assertIs(makes_at([1], -4, 0), False)
        self.assertIs(makes_at([1], 2, 2), False)
        self.assertIs(makes_at([2], 18, 3), True)
        self.assertIs(makes_at([1, 1], 3, 3), False)
        self.assertIs(makes_at([1, 1], 5, 3), True)
        self.assertIs(makes_at([1, 1, 1], 7, 2), False)
        self.assertIs(makes_at([1, 1, 1, 1], 7, 2), True)
        self.assertIs(makes_at([1, -1], 7, 2), True)

    def test_by_trying(self):
        for row in rows(100, 6, 20):
            for c in (1, -1, 2, -3, 5, 12, 18, -49):
                for p in (0,) + SMALL:
                    wanted = has_zero_at(row + [-c], p) or has_zero_at(row, p)
                    self.assertIs(makes_at(row, c, p), wanted, (row, c, p))

    def test_rows_of_eight(self):
        for row in ([1] * 8, [-1] * 8, [GREAT - 1] * 8, [BELOW_30] * 7 + [-1]):
            for c in (1, -1, GREAT - 1, 1 - GREAT, -7):
                for p in (2, 3, BELOW_15, BELOW_30):
                    self.assertIs(makes_at(row, c, p), True)
                wanted = any(k * c > 0 for k in row)
                self.assertIs(makes_at(row, c, 0), wanted)

    def test_great_primes(self):
        for p in GREAT_PRIMES:
            no = next(k for k in PRIMES if pow(k, (p - 1) // 2, p) == p - 1)
            self.assertIs(makes_at([1], no, p), False)
            self.assertIs(makes_at([no], no, p), True)
            self.assertIs(makes_at([1], p, p), False)
            self.assertIs(makes_at([1, -no], p, p), False)
            self.assertIs(makes_at([1, -no], no, p), True)
            self.assertIs(makes_at([1, -no, p], p, p), True)


class NothingChangedOrKept(unittest.TestCase):
    def test_all(self):
        for row in rows(101, 2, 40, free=True):
            asked = [(number_of, [row]), (signs_of, [row]), (noes_of, [row]), (zero_at, [row, 2]), (zero_at, [row, 3]),
                     (first_without, [row]), (makes_at, [row, 6, 2]), (makes_at, [row, -6, 0])]
            asked += [(zero_by, [row, p, k]) for p in (2, 3, 5) for k in (1, 4, 7)]
            for function, handed in asked:
                check_nothing_changed_or_kept(self, function, handed)


if __name__ == "__main__":
    unittest.main()
