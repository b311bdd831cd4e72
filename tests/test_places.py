"""Promises 11 and 12: what places say of two numbers, and classes."""

import unittest

from everyplace.places import all_noes, class_at, says
from kept import check_nothing_changed_or_kept
from samples import Source
from search import ABOVE_15, BELOW_15, BELOW_30, PRIMES, free_by_trying, has_zero_at, is_prime_by_trying, often_in

NUMBERS = [k for k in range(-20, 21) if k != 0]
SMALL = (2, 3, 5, 7)
GREAT_PRIMES = (1009, BELOW_15, ABOVE_15, 1000003, 536870909, BELOW_30)


def great_numbers(bits, count=12):
    source = Source(50 + bits)
    return [source.whole(1, 2 ** bits - 1) * source.chosen([1, -1]) for _ in range(count)]


def primes_in(k):
    return [p for p in PRIMES if k % p == 0]


class Says(unittest.TestCase):
    def test_at_nought(self):
        for a in (1, 5, 2 ** 60 - 1, -1, -3, 1 - 2 ** 60):
            for b in (1, 6, 2 ** 60 - 1, -1, -2, 1 - 2 ** 60):
                self.assertIs(says(a, b, 0), not (a < 0 and b < 0), (a, b))

    def test_told_by_hand(self):
        self.assertIs(says(-1, -1, 2), False)
        self.assertIs(says(-1, -1, 3), True)
        self.assertIs(says(2, 3, 2), False)
        self.assertIs(says(2, 3, 3), False)
        self.assertIs(says(2, 7, 2), True)
        self.assertIs(says(3, 3, 3), False)
        self.assertIs(says(5, 5, 5), True)
        self.assertIs(says(2, 5, 5), False)

    def test_search_by_powers(self):
        for p in SMALL:
            for a in NUMBERS:
                for b in NUMBERS:
                    self.assertIs(says(a, b, p), has_zero_at([a, b, -1], p), (a, b, p))

    def test_search_by_powers_with_powers_in_the_numbers(self):
        for p, top in ((2, 5), (3, 4), (5, 3)):
            for i in range(top):
                for j in range(top):
                    for a, b in ((1, 1), (-1, 2), (3, -1), (7, 5), (2, 2), (-3, -5), (6, 10)):
                        one, other = a * p ** i, b * p ** j
                        self.assertIs(says(one, other, p), has_zero_at([one, other, -1], p), (one, other, p))

    def test_search_by_other_primes(self):
        for p in (11, 13, 17):
            for a in (1, -1, 2, 3, p, -p, 2 * p, 5 * p, -7 * p):
                for b in (1, -1, 2, 5, p, -p, 3 * p, -6 * p):
                    self.assertIs(says(a, b, p), has_zero_at([a, b, -1], p), (a, b, p))

    def test_great_primes(self):
        for p in GREAT_PRIMES:
            no = next(k for k in range(2, 99) if pow(k, (p - 1) // 2, p) == p - 1)
            minus_one = p % 4 == 1
            self.assertIs(says(no, p, p), False)
            self.assertIs(says(p, no, p), False)
            self.assertIs(says(no * no, p, p), True)
            self.assertIs(says(no, no, p), True)
            self.assertIs(says(-1, p, p), minus_one)
            self.assertIs(says(p, p, p), minus_one)
            self.assertIs(says(no * p, p, p), not minus_one)
            self.assertIs(says(-p, p, p), True)

    def test_up_to_squares_alone(self):
        for p in (0, 2, 3, 5, 7, BELOW_15, 1000003):
            for a in (1, -1, 2, -3, 5, 6, 7, p or 1):
                for b in (-1, 3, -7, 10, p or 1, -(p or 1)):
                    for s, t in ((1, 2), (3, 1), (4, 15), (p or 1, 14), (1, p or 1), (2, 3 * (p or 1))):
                        self.assertIs(says(a * s * s, b * t * t, p), says(a, b, p), (a, b, s, t, p))

    def test_either_way_round_and_products(self):
        numbers = great_numbers(30, 8)
        for p in (0, 2, 3, 5, 11) + GREAT_PRIMES:
            for a in numbers:
                self.assertIs(says(a, -a, p), True)
                for b in numbers:
                    self.assertIs(says(a, b, p), says(b, a, p))
                    for c in (-1, 6, p or 1):
                        self.assertIs(says(a * b, c, p), says(a, c, p) == says(b, c, p))

    def test_numbers_up_to_two_to_the_sixty(self):
        for a in (2 ** 60 - 1, 1 - 2 ** 60, 2 ** 59, 3 ** 37, -5 ** 25):
            for b in (2 ** 60 - 1, 2 ** 58 + 1, -2 ** 59, 7 ** 21):
                # Those of which no prime is told divide neither number, and say yes.
                places = [0] + sorted(set([2] + primes_in(a) + primes_in(b)))
                a_left, b_left = abs(a), abs(b)
                for p in places[1:]:
                    a_left //= p ** often_in(a_left, p)
                    b_left //= p ** often_in(b_left, p)
                places += [left for left in sorted({a_left, b_left}) if left > 1]
                if all(place < 2 ** 30 for place in places):
                    self.assertEqual(len([p for p in places if not says(a, b, p)]) % 2, 0, (a, b))
        self.assertIs(says(2 ** 59, 3 ** 37, 2), says(2, 3, 2))
        self.assertIs(says(2 ** 59, 3 ** 37, 3), says(2, 3, 3))
        self.assertIs(says(BELOW_30 * 536870909, 2, BELOW_30), says(BELOW_30, 2, BELOW_30))
        self.assertIs(says(BELOW_30 * 2, 1000003 * 3, BELOW_30),
                      pow(1000003 * 3, (BELOW_30 - 1) // 2, BELOW_30) == 1)


class AllNoes(unittest.TestCase):
    def check(self, a, b):
        noes = all_noes(a, b)
        self.assertIs(type(noes), list)
        self.assertEqual(noes, sorted(set(noes)))
        self.assertEqual(len(noes) % 2, 0, (a, b))
        for p in noes:
            self.assertIs(type(p), int)
            self.assertIs(says(a, b, p), False)
            self.assertTrue(p == 0 or is_prime_by_trying(p) and 2 * a * b % p == 0, (a, b, p))
        for p in [0] + PRIMES[:20] + primes_in(a * b):
            self.assertEqual(p in noes, not says(a, b, p), (a, b, p))
        return noes

    def test_told_by_hand(self):
        self.assertEqual(all_noes(-1, -1), [0, 2])
        self.assertEqual(all_noes(1, 1), [])
        self.assertEqual(all_noes(2, 3), [2, 3])
        self.assertEqual(all_noes(-1, 3), [2, 3])
        self.assertEqual(all_noes(-1, -3), [0, 3])
        self.assertEqual(all_noes(4, -9), [])
        self.assertEqual(all_noes(-1, -7), [0, 7])

    def test_search_by_powers(self):
        for a in NUMBERS:
            for b in NUMBERS:
                noes = [p for p in [0, 2, 3, 5, 7] if not has_zero_at([a, b, -1], p)]
                self.assertEqual([p for p in self.check(a, b) if p < 11], noes, (a, b))

    def test_great(self):
        numbers = great_numbers(30) + [BELOW_30, -BELOW_30, 2 * 536870909, -BELOW_15 * 32719, 2 ** 29, 1 - 2 ** 30]
        for a in numbers:
            for b in numbers + [-1, 2, -3]:
                self.check(a, b)

    def test_tame_numbers_freed_of_squares(self):
        great = 10 ** 20 + 39
        for a, b in ((-1, -1), (2, 3), (-6, 35), (BELOW_15, -7), (-14, -BELOW_15)):
            self.assertEqual(all_noes(a * great ** 2, b), all_noes(a, b))
            self.assertEqual(all_noes(a, b * great ** 2), all_noes(a, b))
            self.assertEqual(all_noes(a * great ** 2, b * ABOVE_15 ** 2), all_noes(a, b))
        for a, b in ((BELOW_30, -7), (-BELOW_30, -2), (-3, ABOVE_15)):
            self.assertEqual(all_noes(a * BELOW_15 ** 2, b * 2 ** 40), all_noes(a, b))


class ClassAt(unittest.TestCase):
    def test_at_nought(self):
        for k, wanted in ((1, 1), (7, 1), (-1, -1), (-12, -1), (10 ** 60, 1), (-10 ** 60, -1)):
            self.assertEqual(class_at(k, 0), wanted)
            self.assertIs(type(class_at(k, 0)), int)

    def test_at_two(self):
        for k, wanted in ((1, (0, 1)), (3, (0, 3)), (-1, (0, 7)), (-3, (0, 5)), (2, (1, 1)), (4, (0, 1)), (12, (0, 3)),
                          (24, (1, 3)), (-8, (1, 7)), (40, (1, 5)), (9, (0, 1)), (2 ** 59, (1, 1)), (17, (0, 1))):
            self.assertEqual(class_at(k, 2), wanted, k)
            self.assertIs(type(class_at(k, 2)), tuple)

    def test_at_odd_primes(self):
        for k, p, wanted in ((1, 3, (0, 1)), (2, 3, (0, -1)), (3, 3, (1, 1)), (6, 3, (1, -1)), (-3, 3, (1, -1)),
                             (9, 3, (0, 1)), (18, 3, (0, -1)), (54, 3, (1, -1)), (-1, 5, (0, 1)), (2, 5, (0, -1)),
                             (10, 5, (1, -1)), (-1, 7, (0, -1)), (7, 7, (1, 1)), (-7 ** 4, 7, (0, -1))):
            self.assertEqual(class_at(k, p), wanted, (k, p))

    def test_by_trying(self):
        for p in PRIMES[1:12]:
            squares = {x * x % p for x in range(1, p)}
            for k in NUMBERS + [p * p * k for k in NUMBERS]:
                often = often_in(k, p)
                kind = 1 if k // p ** often % p in squares else -1
                self.assertEqual(class_at(k, p), (often % 2, kind))

    def test_great_primes(self):
        for p in GREAT_PRIMES:
            self.assertEqual(class_at(p, p), (1, 1))
            self.assertEqual(class_at(p * p, p), (0, 1))
            self.assertEqual(class_at(-p, p), (1, 1 if p % 4 == 1 else -1))
            self.assertEqual(class_at(4 * p ** 3, p), (1, 1))
            self.assertEqual(class_at((10 ** 100 + 1) ** 2, p), (0, 1))

    def test_up_to_squares_alone(self):
        for p in (0, 2, 3, 5, 7, BELOW_15):
            for k in NUMBERS:
                for s in (2, 3, 15, p or 1, 14 * (p or 1)):
                    self.assertEqual(class_at(k * s * s, p), class_at(k, p))
                self.assertEqual(class_at(free_by_trying(k), p), class_at(k, p))


class NothingChangedOrKept(unittest.TestCase):
    def test_all(self):
        for function, handed in ((all_noes, [-1, -1]), (all_noes, [1, 1]), (says, [2, 3, 2]), (class_at, [6, 3])):
            check_nothing_changed_or_kept(self, function, handed)


if __name__ == "__main__":
    unittest.main()
