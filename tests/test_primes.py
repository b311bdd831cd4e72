"""Promises 8 and 9: primes, parts, tame numbers, and numbers freed of squares."""

import math
import unittest
from fractions import Fraction

from everyplace.errors import FormError, TooGreat
from everyplace.primes import free_of, freed, is_prime, is_tame, parts
from kept import check_nothing_changed_or_kept
from samples import Source, is_fraction, known, told
from search import ABOVE_15, ABOVE_30, BELOW_15, BELOW_30, PRIMES, free_by_trying, is_prime_by_trying, squarefree

# Not 0, with the number free of squares; all of them tame.
TAME = (
    (1, 1), (2, 2), (4, 1), (12, 3), (BELOW_15, BELOW_15), (BELOW_15 ** 2, 1), (BELOW_15 ** 13, BELOW_15),
    (ABOVE_15, ABOVE_15), (ABOVE_15 ** 2, 1), (ABOVE_15 ** 4, 1), (2 * ABOVE_15 ** 2, 2), (BELOW_30, BELOW_30),
    (BELOW_30 ** 2, 1), (6 * BELOW_30, 6 * BELOW_30), (ABOVE_30 ** 2, 1), (30 * ABOVE_30 ** 2, 30),
    ((ABOVE_15 * ABOVE_30) ** 2, 1), (2 ** 199, 2), (3 ** 125, 3),
    (7 * (10 ** 29 + 9) ** 2, 7), (2 ** 30, 1), (2 ** 31 * 3, 6), (ABOVE_15 * 2 ** 100, ABOVE_15),
    (math.prod(PRIMES[:32]), math.prod(PRIMES[:32])), (BELOW_15 * 32719 * BELOW_30, BELOW_15 * 32719 * BELOW_30),
)

UNTAME = (
    ABOVE_30, 2 * ABOVE_30, ABOVE_15 * 32779, 6 * ABOVE_15 * 32779, ABOVE_15 ** 3, ABOVE_15 ** 2 * 32779,
    BELOW_30 * ABOVE_15, BELOW_30 * ABOVE_30, 10 ** 59 + 19, 2 ** 100 * ABOVE_30, BELOW_30 ** 2 * ABOVE_15 ** 3,
)


def great_numbers(count=200):
    source = Source(31)
    found = [source.whole(2 ** 28, 2 ** 30 - 1) for _ in range(count)]
    return found + list(range(2 ** 30 - 60, 2 ** 30)) + [BELOW_15 * 32719, 32719 ** 2, 1009 * 1000003, 3 * 357913931]


class IsPrime(unittest.TestCase):
    def test_small(self):
        found = [k for k in range(32800) if is_prime(k)]
        self.assertEqual(found, PRIMES)

    def test_below_two(self):
        for k in (1, 0, -1, -2, -3, -5, -7, -BELOW_30, -10 ** 50):
            self.assertIs(is_prime(k), False)

    def test_great(self):
        for k in great_numbers():
            self.assertIs(is_prime(k), is_prime_by_trying(k), k)
        self.assertIs(is_prime(BELOW_30), True)
        self.assertIs(is_prime(BELOW_15 ** 2), False)
        self.assertIs(is_prime(536870909), True)
        self.assertIs(is_prime(536870912), False)

    def test_those_that_pass_for_primes(self):
        for k in (341, 561, 1105, 1729, 2047, 25326001, 3215031751 // 7, 825265, 321197185, 1050985, 998244353 - 2):
            self.assertIs(is_prime(k), is_prime_by_trying(k), k)


class Parts(unittest.TestCase):
    def check(self, k):
        found = parts(k)
        self.assertIs(type(found), list)
        self.assertEqual(math.prod(p ** often for p, often in found), k)
        primes = [part[0] for part in found]
        self.assertEqual(primes, sorted(set(primes)))
        for part in found:
            self.assertIs(type(part), tuple)
            self.assertTrue(is_prime_by_trying(part[0]) and part[1] > 0, k)

    def test_told_by_hand(self):
        self.assertEqual(parts(1), [])
        self.assertEqual(parts(2), [(2, 1)])
        self.assertEqual(parts(9), [(3, 2)])
        self.assertEqual(parts(360), [(2, 3), (3, 2), (5, 1)])
        self.assertEqual(parts(BELOW_30), [(BELOW_30, 1)])
        self.assertEqual(parts(BELOW_15 ** 2), [(BELOW_15, 2)])
        self.assertEqual(parts(2 ** 29), [(2, 29)])
        self.assertEqual(parts(2 * ABOVE_15), [(2, 1), (ABOVE_15, 1)])
        self.assertEqual(parts(4 * 9 * 1000003), [(2, 2), (3, 2), (1000003, 1)])

    def test_small(self):
        for k in range(1, 3000):
            self.check(k)

    def test_great(self):
        for k in great_numbers():
            self.check(k)


class Tame(unittest.TestCase):
    def test_tame(self):
        for k, number in TAME:
            self.assertIs(is_tame(k), True, k)
            self.assertIs(is_tame(-k), True, -k)

    def test_untame(self):
        for k in UNTAME:
            self.assertIs(is_tame(k), False, k)
            self.assertIs(is_tame(-k), False, -k)

    def test_all_below_two_to_the_thirty(self):
        for k in great_numbers() + list(range(1, 300)):
            self.assertIs(is_tame(k), True, k)
            self.assertIs(is_tame(-k), True, k)

    def test_sixty_figures(self):
        small = 2 ** 60 * 3 ** 30 * BELOW_15 ** 2
        for left, wanted in ((BELOW_30, True), (ABOVE_30, False), (ABOVE_30 ** 2, True), (ABOVE_15 * 32779, False)):
            self.assertIs(is_tame(small * left), wanted)
            self.assertIs(is_tame(-small * left), wanted)
        self.assertIs(is_tame((10 ** 29 + 13) ** 2), True)
        self.assertIs(is_tame((10 ** 29 + 13) ** 2 + 4), False)


class Freed(unittest.TestCase):
    def check(self, u):
        answer = freed(u)
        self.assertIs(type(answer), tuple)
        number, root = answer
        self.assertIs(type(number), int)
        self.assertTrue(is_fraction(root) and root[0] > 0, u)
        self.assertEqual(number * known(root) ** 2, known(u), u)
        return number

    def test_told_by_hand(self):
        self.assertEqual(freed((1, 1)), (1, (1, 1)))
        self.assertEqual(freed((-1, 1)), (-1, (1, 1)))
        self.assertEqual(freed((12, 1)), (3, (2, 1)))
        self.assertEqual(freed((-8, 9)), (-2, (2, 3)))
        self.assertEqual(freed((1, 2)), (2, (1, 2)))
        self.assertEqual(freed((3, 8)), (6, (1, 4)))
        self.assertEqual(freed((-9, 4)), (-1, (3, 2)))
        self.assertEqual(freed((BELOW_30, 1)), (BELOW_30, (1, 1)))
        self.assertEqual(freed((ABOVE_30 ** 2, 1)), (1, (ABOVE_30, 1)))
        self.assertEqual(freed((-3, ABOVE_30 ** 2)), (-3, (1, ABOVE_30)))
        self.assertEqual(freed((ABOVE_15, 2)), (2 * ABOVE_15, (1, 2)))

    def test_small_fractions(self):
        for top in range(-60, 61):
            for bottom in range(1, 31):
                u = told(Fraction(top or 1, bottom))
                self.assertTrue(squarefree(self.check(u)), u)

    def test_tame(self):
        for k, number in TAME:
            for sign in (1, -1):
                self.assertEqual(self.check((sign * k, 1)), sign * number)
                self.assertEqual(self.check((sign, k)), sign * number)
                self.assertEqual(free_of(sign * k), sign * number)

    def test_many_figures(self):
        great = 10 ** 149 + 7
        self.assertEqual(freed((-14 * great ** 2, 1)), (-14, (great, 1)))
        self.assertEqual(freed((5, great ** 2)), (5, (1, great)))
        self.assertEqual(freed((2 ** 901, 3 ** 500)), (2, (2 ** 450, 3 ** 250)))
        self.assertEqual(freed((ABOVE_30 ** 2, 2 * BELOW_30 ** 4)), (2, (ABOVE_30, 2 * BELOW_30 ** 2)))

    def test_untame(self):
        for k in UNTAME:
            for u in ((k, 1), (-k, 1), (1, k), (-1, k)):
                with self.assertRaises(TooGreat):
                    freed(u)
            for sign in (1, -1):
                with self.assertRaises(TooGreat):
                    free_of(sign * k)
        self.assertTrue(issubclass(TooGreat, FormError))

    def test_top_times_bottom_untame(self):
        for u in ((ABOVE_15, 32779), (-BELOW_30, ABOVE_15), (ABOVE_15 ** 2, 32779 ** 3), (2, ABOVE_30)):
            with self.assertRaises(TooGreat):
                freed(u)

    def test_squares_above_and_below(self):
        self.assertEqual(freed((ABOVE_15 ** 2, 32779 ** 2)), (1, (ABOVE_15, 32779)))


class FreeOf(unittest.TestCase):
    def test_small(self):
        for k in range(1, 1500):
            self.assertEqual(free_of(k), free_by_trying(k))
            self.assertEqual(free_of(-k), -free_by_trying(k))

    def test_great(self):
        for k in great_numbers():
            self.assertEqual(free_of(k), free_by_trying(k))


class NothingChangedOrKept(unittest.TestCase):
    def test_all(self):
        for function, handed in ((parts, [360]), (parts, [1]), (parts, [BELOW_30]), (freed, [(-8, 9)]),
                                 (free_of, [12])):
            check_nothing_changed_or_kept(self, function, handed)


if __name__ == "__main__":
    unittest.main()
