"""Promise 19: small numbers, and a number with wished classes."""

import itertools
import unittest

from everyplace.wished import is_small, number_with
from kept import check_nothing_changed_or_kept
from samples import Source
from search import BELOW_15, BELOW_30, PRIMES, free_by_trying, often_in

SMALL_PRIMES = (2, 3, 5, 7, 11, 13)
GREAT = 2 ** 30


def class_by_trying(k, p):
    if p == 0:
        return 1 if k > 0 else -1
    often = often_in(k, p)
    left = k // p ** often
    if p == 2:
        return (often % 2, left % 8)
    return (often % 2, 1 if left % p in {x * x % p for x in range(1, p)} else -1)


def classes_of(k):
    return [class_by_trying(k, p) for p in (0,) + SMALL_PRIMES]


def wished_by_trying(classes):
    start = classes[0]
    for p, wish in zip(SMALL_PRIMES, classes[1:]):
        start *= p ** wish[0]
    for q in [1] + [p for p in PRIMES if p > 13]:
        if all(class_by_trying(start * q, p) == wish for p, wish in zip(SMALL_PRIMES, classes[1:])):
            return start * q, q
    raise AssertionError("none was found")


def all_kinds():
    """Each sign, and for each prime each kind that a number may have there."""
    odd = [(v, s) for v in (0, 1) for s in (1, -1)]
    return [[1, -1], [(v, r) for v in (0, 1) for r in (1, 3, 5, 7)], odd, odd, odd, odd, odd]


class IsSmall(unittest.TestCase):
    def check(self, k, wanted):
        self.assertIs(is_small(k), wanted, k)
        self.assertIs(is_small(-k), wanted, -k)

    def test_told_by_hand(self):
        for k in (1, 2, 3, 13, 30030, 289, 17 * 17 * 6, BELOW_15 ** 2, 4 * 9 * 25, 2 ** 29, 5 * 10007 ** 2, 3 ** 18):
            self.check(k, True)
        for k in (17, 34, 2 * 19, 17 * 19, 17 ** 3, 30030 * 17, BELOW_30, BELOW_15, 2 * 10007, 13 * 17 * 17 * 17):
            self.check(k, False)

    def test_nought_and_great(self):
        self.assertIs(is_small(0), False)
        for k in (GREAT, GREAT + 1, 2 ** 31, 2 ** 60, 10 ** 18, 3 ** 100, 17 ** 40, 10 ** 299, GREAT * 9):
            self.check(k, False)
        self.check(GREAT - 1, False)
        self.check(2 ** 29, True)
        self.check(13 ** 8, True)
        self.check(13 ** 9, False)

    def test_just_below(self):
        greatest = max(a * b * c for a in (2 ** i for i in range(30)) for b in (3 ** i for i in range(19))
                       for c in (5 ** i * 7 ** j for i in range(13) for j in range(11)) if a * b * c < GREAT)
        self.check(greatest, True)

    def test_freed_of_squares(self):
        for k in range(1, 3000):
            left = abs(free_by_trying(k))
            self.check(k, all(left % p != 0 for p in PRIMES if 13 < p < 3000))

    def test_great_freed_of_squares(self):
        source = Source(120)
        for _ in range(100):
            k = source.whole(1, 1000) ** 2 * source.whole(1, 1000)
            left = abs(free_by_trying(k))
            self.check(k, all(left % p != 0 for p in PRIMES if 13 < p < 1000))


class NumberWith(unittest.TestCase):
    def check(self, classes):
        answer = number_with(classes)
        wanted, q = wished_by_trying(classes)
        self.assertEqual(answer, wanted, classes)
        self.assertIs(type(answer), int)
        self.assertEqual(classes_of(answer), classes)
        self.assertTrue(q < 8100)
        return q

    def test_told_by_hand(self):
        plain = [1] + [(0, 1)] * 6
        self.assertEqual(number_with(plain), 1)
        self.assertEqual(number_with(classes_of(-1)), -1)
        self.assertEqual(number_with(classes_of(6)), 6)
        self.assertEqual(number_with(classes_of(-30030)), -30030)
        self.assertEqual(number_with(classes_of(17)), 17)
        # 8089 is a square at all small places: so is 1, which goes ahead.
        self.assertEqual(number_with(classes_of(8089)), 1)
        self.assertEqual(number_with(classes_of(-2 * 8089)), -2)

    def test_numbers_without_great_primes(self):
        for k in itertools.product((1, -1), *[(1, p) for p in SMALL_PRIMES]):
            number = k[0] * k[1] * k[2] * k[3] * k[4] * k[5] * k[6]
            self.assertEqual(number_with(classes_of(number)), number)

    def test_with_each_prime(self):
        for q in PRIMES[6:60]:
            for start in (1, -1, 2, -15, 30030):
                answer = number_with(classes_of(start * q))
                self.assertEqual(classes_of(answer), classes_of(start * q))
                self.assertTrue(abs(answer) <= abs(start) * q)

    def test_each_kind_of_prime(self):
        needed = set()
        for r in (1, 3, 5, 7):
            for kinds in itertools.product((1, -1), repeat=5):
                needed.add(self.check([1, (0, r)] + [(0, s) for s in kinds]))
        self.assertEqual(len(needed), 128)
        self.assertEqual(max(needed), 3583)

    def test_lists_of_all_kinds(self):
        source = Source(121)
        kinds = all_kinds()
        for _ in range(300):
            self.check([source.chosen(choice) for choice in kinds])


class NothingChangedOrKept(unittest.TestCase):
    def test_all(self):
        for k in (1, -6, 17, 8089, 2 * 23):
            check_nothing_changed_or_kept(self, number_with, [classes_of(k)])
        check_nothing_changed_or_kept(self, is_small, [12])


if __name__ == "__main__":
    unittest.main()
