"""Promise 5: tables; and of promise 2, that nothing is changed or kept."""

import copy
import unittest
from fractions import Fraction

from everyplace.tables import at, back, plain_table, product, size_number, turned_over
from samples import (Source, is_fraction, is_table, known, lists_in, product_by_sums, size_by_parts, spoil, table_of,
                     told)

SIZES = range(1, 9)


def plain(n):
    return table_of([[int(i == j) for j in range(n)] for i in range(n)])


def tables(n, count=3):
    source = Source(100 + n)
    return [source.table(n) for _ in range(count)]


def with_back(n):
    return [T for T in tables(n, 6) if size_by_parts(T) != (0, 1)][:3]


def exchanged(T, i, j):
    rows = copy.deepcopy(T)
    rows[i], rows[j] = rows[j], rows[i]
    return rows


class Plain(unittest.TestCase):
    def test_sizes(self):
        self.assertEqual(plain_table(1), [[(1, 1)]])
        self.assertEqual(plain_table(2), [[(1, 1), (0, 1)], [(0, 1), (1, 1)]])
        for n in SIZES:
            self.assertEqual(plain_table(n), plain(n))
            self.assertTrue(is_table(plain_table(n), n))


class Product(unittest.TestCase):
    def test_told_by_hand(self):
        one = table_of([[1, 2], [3, 4]])
        other = table_of([[0, 1], [Fraction(1, 2), -1]])
        self.assertEqual(product(one, other), table_of([[1, -1], [2, -1]]))
        self.assertEqual(product(other, one), table_of([[3, 4], [Fraction(-5, 2), -3]]))

    def test_size_one(self):
        self.assertEqual(product([[(2, 3)]], [[(-3, 4)]]), [[(-1, 2)]])

    def test_sums_of_products(self):
        for n in SIZES:
            found = tables(n)
            for one in found:
                for other in found:
                    answer = product(one, other)
                    self.assertEqual(answer, product_by_sums(one, other))
                    self.assertTrue(is_table(answer, n))

    def test_plain_on_either_side(self):
        for n in SIZES:
            for T in tables(n):
                self.assertEqual(product(plain_table(n), T), T)
                self.assertEqual(product(T, plain_table(n)), T)

    def test_one_table_handed_in_twice(self):
        for n in SIZES:
            T = tables(n)[0]
            kept = copy.deepcopy(T)
            self.assertEqual(product(T, T), product_by_sums(kept, kept))
            self.assertEqual(T, kept)

    def test_many_figures(self):
        source = Source(7)
        one, other = source.table(3, 10 ** 299), source.table(3, 10 ** 299)
        self.assertEqual(product(one, other), product_by_sums(one, other))


class TurnedOver(unittest.TestCase):
    def test_told_by_hand(self):
        self.assertEqual(turned_over([[(5, 3)]]), [[(5, 3)]])
        T = table_of([[1, 2, 3], [4, 5, 6], [7, 8, 9]])
        self.assertEqual(turned_over(T), table_of([[1, 4, 7], [2, 5, 8], [3, 6, 9]]))

    def test_each_place(self):
        for n in SIZES:
            for T in tables(n):
                answer = turned_over(T)
                self.assertTrue(is_table(answer, n))
                for i in range(n):
                    for j in range(n):
                        self.assertEqual(answer[j][i], T[i][j])

    def test_twice(self):
        for n in SIZES:
            for T in tables(n):
                self.assertEqual(turned_over(turned_over(T)), T)

    def test_of_a_product(self):
        for n in SIZES:
            one, other = tables(n)[:2]
            self.assertEqual(turned_over(product(one, other)), product(turned_over(other), turned_over(one)))


class At(unittest.TestCase):
    def test_told_by_hand(self):
        T = table_of([[1, 2], [3, 4]])
        self.assertEqual(at(T, [(5, 1), (6, 1)]), [(17, 1), (39, 1)])
        self.assertEqual(at(T, [(1, 2), (-1, 4)]), [(0, 1), (1, 2)])
        self.assertEqual(at([[(2, 3)]], [(3, 2)]), [(1, 1)])

    def test_sums(self):
        for n in SIZES:
            source = Source(200 + n)
            for T in tables(n):
                x = source.vector(n)
                answer = at(T, x)
                wanted = [told(sum(known(u) * known(v) for u, v in zip(row, x))) for row in T]
                self.assertEqual(answer, wanted)
                self.assertTrue(all(map(is_fraction, answer)))
                self.assertIs(type(answer), list)

    def test_plain_and_noughts(self):
        for n in SIZES:
            x = Source(300 + n).vector(n)
            self.assertEqual(at(plain_table(n), x), x)
            self.assertEqual(at(tables(n)[0], [(0, 1)] * n), [(0, 1)] * n)

    def test_of_a_product(self):
        for n in SIZES:
            one, other = tables(n)[:2]
            x = Source(400 + n).vector(n)
            self.assertEqual(at(product(one, other), x), at(one, at(other, x)))


class Back(unittest.TestCase):
    def check(self, T):
        n = len(T)
        answer = back(T)
        self.assertTrue(is_table(answer, n), T)
        self.assertEqual(product_by_sums(T, answer), plain(n))
        self.assertEqual(product_by_sums(answer, T), plain(n))
        self.assertEqual(product(T, answer), plain_table(n))
        self.assertEqual(product(answer, T), plain_table(n))

    def test_told_by_hand(self):
        self.assertEqual(back([[(-2, 3)]]), [[(-3, 2)]])
        self.assertEqual(back(table_of([[1, 2], [3, 4]])), table_of([[-2, 1], [Fraction(3, 2), Fraction(-1, 2)]]))

    def test_multiplied_in_either_order(self):
        for n in SIZES:
            self.assertTrue(with_back(n))
            for T in with_back(n):
                self.check(T)

    def test_of_the_plain_table(self):
        for n in SIZES:
            self.assertEqual(back(plain_table(n)), plain(n))

    def test_back_of_the_back(self):
        for n in SIZES:
            for T in with_back(n):
                self.assertEqual(back(back(T)), T)

    def test_of_a_product(self):
        for n in SIZES:
            one, other = with_back(n)[:2]
            self.assertEqual(back(product(one, other)), product(back(other), back(one)))

    def test_nought_in_upright_places(self):
        self.assertEqual(back(table_of([[0, 2], [3, 0]])), table_of([[0, Fraction(1, 3)], [Fraction(1, 2), 0]]))
        self.check(table_of([[0, 1, 0], [0, 0, 2], [3, 0, 0]]))
        self.check(table_of([[0, 1, 1], [1, 0, 1], [1, 1, 0]]))
        self.check(table_of([[1, 2, 3], [2, 4, 5], [3, 5, 6]]))
        for n in SIZES[1:]:
            self.check(table_of([[int(i != j) for j in range(n)] for i in range(n)]))
            self.check(table_of([[int(i + j == n - 1) * (i + 2) for j in range(n)] for i in range(n)]))
            self.check(table_of([[int((i + 1) % n == j) * Fraction(-1, i + 2) for j in range(n)] for i in range(n)]))

    def test_lists_of_noughts(self):
        self.assertIsNone(back([[(0, 1)]]))
        for n in SIZES:
            self.assertIsNone(back(table_of([[0] * n] * n)))
            for i in range(n):
                T = copy.deepcopy(tables(n)[0])
                T[i] = [(0, 1)] * n
                self.assertIsNone(back(T))
                self.assertIsNone(back(turned_over(T)))

    def test_lists_that_depend_on_one_another(self):
        self.assertIsNone(back(table_of([[1, 2], [2, 4]])))
        self.assertIsNone(back(table_of([[1, 2, 3], [4, 5, 6], [7, 8, 9]])))
        for n in SIZES[1:]:
            T = copy.deepcopy(tables(n)[0])
            T[n - 1] = [told(sum((i + 1) * known(T[i][j]) for i in range(n - 1)) / 3) for j in range(n)]
            self.assertIsNone(back(T))
            self.assertIsNone(back(exchanged(T, 0, n - 1)))
            self.assertIsNone(back(turned_over(T)))

    def test_many_figures(self):
        self.check(Source(9).table(3, 10 ** 299))
        great = 10 ** 299
        self.check(table_of([[great, great - 1], [great + 1, great]]))
        self.assertIsNone(back(table_of([[great, great - 1], [3 * great, 3 * great - 3]])))


class SizeNumber(unittest.TestCase):
    def test_told_by_hand(self):
        self.assertEqual(size_number(table_of([[1, 2], [3, 4]])), (-2, 1))
        self.assertEqual(size_number(table_of([[Fraction(1, 2), Fraction(1, 3)], [1, 2]])), (2, 3))
        self.assertEqual(size_number(table_of([[0, 1, 0], [0, 0, 2], [3, 0, 0]])), (6, 1))
        self.assertEqual(size_number(table_of([[0, 0, 1], [0, 1, 0], [1, 0, 0]])), (-1, 1))

    def test_size_one(self):
        for u in ((0, 1), (3, 4), (-3, 4), (7, 1)):
            self.assertEqual(size_number([[u]]), u)

    def test_opened_list_by_list(self):
        for n in SIZES:
            for T in tables(n):
                answer = size_number(T)
                self.assertEqual(answer, size_by_parts(T))
                self.assertTrue(is_fraction(answer))

    def test_of_the_plain_table(self):
        for n in SIZES:
            self.assertEqual(size_number(plain_table(n)), (1, 1))

    def test_nought(self):
        self.assertEqual(size_number(table_of([[1, 2], [2, 4]])), (0, 1))
        self.assertEqual(size_number(table_of([[1, 2, 3], [4, 5, 6], [7, 8, 9]])), (0, 1))
        for n in SIZES:
            self.assertEqual(size_number(table_of([[0] * n] * n)), (0, 1))
        for n in SIZES[1:]:
            T = copy.deepcopy(tables(n)[0])
            T[n - 1] = list(T[0])
            self.assertEqual(size_number(T), (0, 1))
            self.assertEqual(size_number(turned_over(T)), (0, 1))

    def test_of_products(self):
        for n in SIZES:
            one, other = with_back(n)[:2]
            wanted = told(known(size_number(one)) * known(size_number(other)))
            self.assertEqual(size_number(product(one, other)), wanted)

    def test_with_exchanged_lists(self):
        for n in SIZES[1:]:
            T = with_back(n)[0]
            wanted = told(-known(size_number(T)))
            for i in range(n):
                for j in range(i):
                    self.assertEqual(size_number(exchanged(T, i, j)), wanted)

    def test_turned_over_and_back(self):
        for n in SIZES:
            for T in with_back(n):
                self.assertEqual(size_number(turned_over(T)), size_number(T))
                self.assertEqual(size_number(back(T)), told(1 / known(size_number(T))))

    def test_noughts_ahead(self):
        for n in SIZES[1:]:
            hollow = table_of([[int(i != j) for j in range(n)] for i in range(n)])
            self.assertEqual(size_number(hollow), ((-1) ** (n - 1) * (n - 1), 1))

    def test_many_figures(self):
        great = 10 ** 299
        self.assertEqual(size_number(table_of([[great, great - 1], [great + 1, great]])), (1, 1))
        T = Source(11).table(3, great)
        self.assertEqual(size_number(T), size_by_parts(T))


def asked(n):
    """Each function that tells a list, with things to hand in to it."""
    one, other = with_back(n)[:2]
    x = Source(500 + n).vector(n)
    return [
        (product, [one, other]), (product, [one, one]), (product, [plain_table(n), one]),
        (product, [one, plain_table(n)]), (turned_over, [one]), (turned_over, [plain_table(n)]), (back, [one]),
        (back, [plain_table(n)]), (at, [one, x]), (at, [plain_table(n), x]), (plain_table, [n]),
    ]


class NothingChangedOrKept(unittest.TestCase):
    def test_what_is_handed_in_stays(self):
        for n in SIZES:
            for function, handed in asked(n) + [(size_number, [T]) for T in tables(n)]:
                kept = copy.deepcopy(handed)
                function(*handed)
                self.assertEqual(handed, kept, function)

    def test_what_is_handed_in_stays_where_there_is_no_back(self):
        for n in SIZES:
            T = copy.deepcopy(tables(n)[0])
            T[0] = [(0, 1)] * n
            kept = copy.deepcopy(T)
            self.assertIsNone(back(T))
            self.assertEqual(size_number(T), (0, 1))
            self.assertEqual(T, kept)

    def test_every_list_is_new(self):
        for n in SIZES:
            for function, handed in asked(n):
                first = function(*handed)
                second = function(*handed)
                found = lists_in(first) + lists_in(second)
                self.assertEqual(len(found), len(set(found)), function)
                self.assertFalse(set(found) & set(lists_in(handed)), function)

    def test_new_also_where_a_list_stands_twice_in_a_table(self):
        numbers = [(1, 2), (3, 1)]
        answer = turned_over([numbers, numbers])
        self.assertEqual(len(set(lists_in(answer))), 3)
        again = product([numbers, numbers], plain_table(2))
        self.assertEqual(len(set(lists_in(again))), 3)

    def test_what_is_done_to_the_told_changes_nothing(self):
        for n in SIZES:
            for function, handed in asked(n):
                kept = copy.deepcopy(handed)
                first = function(*handed)
                wanted = copy.deepcopy(first)
                second = function(*handed)
                spoil(first)
                self.assertEqual(handed, kept, function)
                self.assertEqual(second, wanted, function)
                self.assertEqual(function(*handed), wanted, function)

    def test_what_is_done_to_the_handed_in_changes_nothing(self):
        for n in SIZES:
            for function, handed in asked(n):
                given = copy.deepcopy(handed)
                answer = function(*given)
                wanted = copy.deepcopy(answer)
                for thing in given:
                    spoil(thing)
                self.assertEqual(answer, wanted, function)
                self.assertEqual(function(*handed), wanted, function)


if __name__ == "__main__":
    unittest.main()
