"""Promise 4: fractions."""

import unittest
from fractions import Fraction

from everyplace.fractions import fraction, is_less, minus, over, plus, times
from samples import Source, is_fraction, known, told

GREAT = 10 ** 299


def small_fractions():
    return sorted({told(Fraction(top, bottom)) for top in range(-7, 8) for bottom in range(1, 8)})


def great_fractions():
    source = Source(4)
    great = [source.pair(10 ** 300 - 1) for _ in range(12)]
    return great + [(0, 1), (1, 1), (-1, 1), (1, GREAT), (-GREAT, 1), (GREAT + 1, GREAT), (-GREAT, GREAT + 1)]


class Made(unittest.TestCase):
    def check(self, top, bottom, wanted):
        answer = fraction(top, bottom)
        self.assertEqual(answer, wanted, (top, bottom))
        self.assertTrue(is_fraction(answer), (top, bottom))

    def test_signs(self):
        self.check(6, 4, (3, 2))
        self.check(-6, 4, (-3, 2))
        self.check(6, -4, (-3, 2))
        self.check(-6, -4, (3, 2))

    def test_signs_without_common_divisor(self):
        self.check(3, 7, (3, 7))
        self.check(-3, 7, (-3, 7))
        self.check(3, -7, (-3, 7))
        self.check(-3, -7, (3, 7))

    def test_whole(self):
        self.check(5, 1, (5, 1))
        self.check(5, -1, (-5, 1))
        self.check(12, 4, (3, 1))
        self.check(-12, 4, (-3, 1))
        self.check(12, -12, (-1, 1))
        self.check(1, 1, (1, 1))

    def test_one_above(self):
        self.check(1, 9, (1, 9))
        self.check(4, 12, (1, 3))
        self.check(-4, -12, (1, 3))

    def test_nought(self):
        for bottom in (1, 2, 7, GREAT, -1, -2, -7, -GREAT):
            self.check(0, bottom, (0, 1))

    def test_many_figures(self):
        self.check(6 * GREAT, 4 * GREAT, (3, 2))
        self.check(6 * GREAT, -4 * GREAT, (-3, 2))
        self.check(10 ** 300 - 1, 10 ** 150 - 1, (10 ** 150 + 1, 1))
        self.check(10 ** 150 - 1, 1 - 10 ** 300, (-1, 10 ** 150 + 1))
        self.check(GREAT + 1, GREAT, (GREAT + 1, GREAT))
        self.check(-GREAT, GREAT - 1, (-GREAT, GREAT - 1))
        self.check(3 ** 300 * 2 ** 300, 3 ** 301 * 2 ** 299, (2, 3))

    def test_all_small(self):
        for top in range(-30, 31):
            for bottom in range(-30, 31):
                if bottom != 0:
                    self.check(top, bottom, told(Fraction(top, bottom)))

    def test_great_ones(self):
        source = Source(1)
        for _ in range(60):
            common = source.whole(1, 10 ** 40)
            top = source.whole(-10 ** 200, 10 ** 200) * common
            bottom = source.whole(1, 10 ** 200) * common * (-1) ** source.whole(0, 1)
            self.check(top, bottom, told(Fraction(top, bottom)))


class Reckoned(unittest.TestCase):
    def check_all(self, u, v):
        one, other = known(u), known(v)
        pairs = [(plus(u, v), one + other), (minus(u, v), one - other), (times(u, v), one * other)]
        if other != 0:
            pairs.append((over(u, v), one / other))
        for answer, wanted in pairs:
            self.assertEqual(answer, told(wanted), (u, v))
            self.assertTrue(is_fraction(answer), (u, v))

    def test_sums(self):
        self.assertEqual(plus((1, 2), (1, 3)), (5, 6))
        self.assertEqual(plus((1, 6), (1, 3)), (1, 2))
        self.assertEqual(plus((1, 2), (1, 2)), (1, 1))
        self.assertEqual(plus((1, 2), (-1, 2)), (0, 1))
        self.assertEqual(plus((-3, 4), (1, 4)), (-1, 2))
        self.assertEqual(plus((0, 1), (0, 1)), (0, 1))

    def test_differences(self):
        self.assertEqual(minus((1, 2), (1, 3)), (1, 6))
        self.assertEqual(minus((1, 3), (1, 2)), (-1, 6))
        self.assertEqual(minus((5, 6), (1, 3)), (1, 2))
        self.assertEqual(minus((5, 6), (5, 6)), (0, 1))
        self.assertEqual(minus((0, 1), (5, 6)), (-5, 6))

    def test_products(self):
        self.assertEqual(times((2, 3), (3, 4)), (1, 2))
        self.assertEqual(times((-2, 3), (3, 4)), (-1, 2))
        self.assertEqual(times((-2, 3), (-3, 2)), (1, 1))
        self.assertEqual(times((0, 1), (-3, 4)), (0, 1))

    def test_quotients(self):
        self.assertEqual(over((2, 3), (4, 3)), (1, 2))
        self.assertEqual(over((2, 3), (-4, 3)), (-1, 2))
        self.assertEqual(over((-2, 3), (-4, 3)), (1, 2))
        self.assertEqual(over((0, 1), (-4, 3)), (0, 1))
        self.assertEqual(over((5, 7), (5, 7)), (1, 1))
        self.assertEqual(over((1, 1), (-5, 7)), (-7, 5))

    def test_all_small(self):
        for u in small_fractions():
            for v in small_fractions():
                self.check_all(u, v)

    def test_great_ones(self):
        for u in great_fractions():
            for v in great_fractions():
                self.check_all(u, v)


class Less(unittest.TestCase):
    def check(self, u, v):
        self.assertIs(is_less(u, v), known(u) < known(v), (u, v))

    def test_either_way_round(self):
        self.assertIs(is_less((1, 3), (1, 2)), True)
        self.assertIs(is_less((1, 2), (1, 3)), False)

    def test_below_nought(self):
        self.assertIs(is_less((-1, 2), (-1, 3)), True)
        self.assertIs(is_less((-1, 3), (-1, 2)), False)
        self.assertIs(is_less((-1, 2), (1, 3)), True)
        self.assertIs(is_less((1, 3), (-1, 2)), False)
        self.assertIs(is_less((-5, 1), (0, 1)), True)
        self.assertIs(is_less((0, 1), (-5, 1)), False)

    def test_with_itself(self):
        for u in ((0, 1), (2, 3), (-2, 3), (GREAT, GREAT + 1)):
            self.assertIs(is_less(u, u), False)

    def test_not_by_tops_or_bottoms_alone(self):
        self.assertIs(is_less((3, 7), (2, 3)), True)
        self.assertIs(is_less((2, 3), (3, 7)), False)
        self.assertIs(is_less((2, 9), (1, 4)), True)

    def test_all_small(self):
        for u in small_fractions():
            for v in small_fractions():
                self.check(u, v)

    def test_great_ones(self):
        self.assertIs(is_less((GREAT, GREAT + 1), (GREAT + 1, GREAT + 2)), True)
        self.assertIs(is_less((GREAT + 1, GREAT + 2), (GREAT, GREAT + 1)), False)
        for u in great_fractions():
            for v in great_fractions():
                self.check(u, v)


if __name__ == "__main__":
    unittest.main()
