"""Promise 10: squares by primes, and roots."""

import math
import unittest

from everyplace.rests import root_by, square_by
from samples import Source
from search import ABOVE_15, BELOW_15, BELOW_30, PRIMES, squarefree

# Less 1, these are divided by many powers of 2: 23, 26 and 25 of them.
MANY_TWOS = (998244353, 469762049, 167772161)
GREAT_PRIMES = (BELOW_15, ABOVE_15, 1000003, 536870909, BELOW_30, 1000000007, 65537, 786433) + MANY_TWOS


def great_numbers():
    source = Source(41)
    return [source.whole(-10 ** 9, 10 ** 9) for _ in range(20)] + [source.whole(-10 ** 299,
                                                                                10 ** 299) for _ in range(9)]


class SquareBy(unittest.TestCase):
    def test_by_two(self):
        for k in range(-9, 10):
            self.assertEqual(square_by(k, 2), k % 2)

    def test_small(self):
        for p in PRIMES[1:40]:
            squares = {x * x % p for x in range(1, p)}
            for k in range(-p - 3, 2 * p + 3):
                wanted = 0 if k % p == 0 else (1 if k % p in squares else -1)
                self.assertEqual(square_by(k, p), wanted, (k, p))

    def test_great(self):
        for p in GREAT_PRIMES:
            for k in great_numbers():
                self.assertEqual(square_by(k, p) % p, pow(k, (p - 1) // 2, p), (k, p))
                if k % p != 0:
                    self.assertEqual(square_by(k * k, p), 1)
            for k in (0, p, -p, 7 * p, p * p):
                self.assertEqual(square_by(k, p), 0)

    def test_kinds(self):
        for p in (2, 3, 7, BELOW_30):
            for k in range(-4, 5):
                self.assertIs(type(square_by(k, p)), int)

    def test_each_to_the_other(self):
        primes = PRIMES[1:30] + list(GREAT_PRIMES)
        for p in primes:
            for q in primes:
                if p != q:
                    unlike = p % 4 == 3 and q % 4 == 3
                    self.assertEqual(square_by(p, q) == square_by(q, p), not unlike, (p, q))


class RootBy(unittest.TestCase):
    def check(self, k, m):
        root = root_by(k, m)
        self.assertIs(type(root), int, (k, m))
        self.assertTrue(0 <= root < m, (k, m))
        self.assertEqual((root * root - k) % m, 0, (k, m))

    def test_by_one(self):
        for k in (-5, -1, 0, 1, 7, 10 ** 100):
            self.assertEqual(root_by(k, 1), 0)

    def test_small(self):
        for m in filter(squarefree, range(1, 240)):
            squares = {x * x % m for x in range(m)}
            for k in range(-m, m + 2):
                if k % m in squares:
                    self.check(k, m)
                else:
                    self.assertIsNone(root_by(k, m), (k, m))

    def test_all_small_primes(self):
        for p in PRIMES[:400]:
            for k in (-1, 2, 3, 5, p - 4, 4 * p + 9):
                if k % p == 0 or p == 2 or pow(k, (p - 1) // 2, p) == 1:
                    self.check(k, p)
                else:
                    self.assertIsNone(root_by(k, p), (k, p))

    def test_great_primes(self):
        self.assertEqual({p % 8 for p in GREAT_PRIMES}, {1, 3, 5, 7})
        for p in GREAT_PRIMES:
            for k in great_numbers():
                self.check(k * k, p)
                if pow(k, (p - 1) // 2, p) == p - 1:
                    self.assertIsNone(root_by(k, p))
                else:
                    self.check(k, p)
            self.check(0, p)
            self.check(1, p)
            self.check(-5 * p, p)

    def test_products(self):
        products = [math.prod(PRIMES[:9]), 2 * 536870909, 3 * 5 * 7 * 17 * 97 * 193, BELOW_15 * 32719, 2 * 65537 * 7681,
                    17 * 41 * 73 * 89 * 97, 6 * 167772161, 786433 * 1361]
        for m in products:
            self.assertTrue(squarefree(m) and m < 2 ** 30)
            for k in great_numbers():
                self.check(k * k, m)
            for p in PRIMES[:9]:
                if m % p == 0:
                    self.check(m // p * m // p, m)
                    self.check(m // p * p, m)

    def test_none_where_one_prime_has_none(self):
        m = 2 * 3 * 5 * 7 * 11 * 13 * 17 * 19 * 23
        for p in PRIMES[1:9]:
            no = next(k for k in range(2, p) if pow(k, (p - 1) // 2, p) == p - 1)
            # It leaves 1 by all others, and no square by p.
            k = 1 + (m // p) * ((no - 1) * pow(m // p, -1, p) % p)
            self.assertIsNone(root_by(k, m))
            self.assertIsNone(root_by(k - 5 * m, m))
            self.check(k, m // p)
        no = next(k for k in range(2, 99) if pow(k, (BELOW_15 - 1) // 2, BELOW_15) == BELOW_15 - 1)
        self.assertIsNone(root_by(no, BELOW_15 * 32719))

    def test_many_figures(self):
        for m in (1, 2, 3, 30, BELOW_30):
            self.check((10 ** 149 + 3) ** 2, m)
            self.check((10 ** 149 + 3) ** 2 - m * 10 ** 290, m)


if __name__ == "__main__":
    unittest.main()
