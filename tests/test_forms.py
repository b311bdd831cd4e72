"""Promises 6 and 7: forms, changes of unknowns, and forms turned upright."""

import unittest
from fractions import Fraction

from everyplace.forms import beside, form_of, is_form, led, upright, value
from everyplace.tables import at, back, plain_table, product, size_number
from kept import check_nothing_changed_or_kept
from samples import Source, is_fraction, is_table, known, product_by_sums, table_of, told

SIZES = range(1, 9)
HALF = Fraction(1, 2)


def forms(n, count=4, size=9):
    source = Source(600 + n)
    return [source.form(n, size) for _ in range(count)]


def changes(n, count=2):
    source = Source(700 + n)
    found = [source.table(n, 5) for _ in range(count + 4)]
    return [T for T in found if size_number(T) != (0, 1)][:count]


def value_by_sums(F, x):
    n = len(F)
    return told(sum(known(F[i][j]) * known(x[i]) * known(x[j]) for i in range(n) for j in range(n)))


def led_by_sums(F, T):
    return product_by_sums(product_by_sums([list(row) for row in zip(*T)], F), T)


def upright_by_letter(F):
    """Promise 7, word by word: each move is done to a change, and the form is led by it anew from the first one."""
    n = len(F)
    columns = [[Fraction(int(i == j)) for i in range(n)] for j in range(n)]

    def form_so_far():
        T = [[told(columns[j][i]) for j in range(n)] for i in range(n)]
        return [[known(u) for u in row] for row in led_by_sums(F, T)]

    for k in range(n):
        now = form_so_far()
        if all(now[i][j] == 0 for i in range(k, n) for j in range(k, n)):
            break
        i = next((j for j in range(k, n) if now[j][j] != 0), None)
        if i is None:
            i, j = min((i, j) for i in range(k, n) for j in range(i + 1, n) if now[i][j] != 0)
            columns[i] = [u + v for u, v in zip(columns[i], columns[j])]
        columns[k], columns[i] = columns[i], columns[k]
        now = form_so_far()
        for j in range(k + 1, n):
            times = now[k][j] / now[k][k]
            columns[j] = [u - times * v for u, v in zip(columns[j], columns[k])]
    now = form_so_far()
    return [told(now[i][i]) for i in range(n)], [[told(columns[j][i]) for j in range(n)] for i in range(n)]


class IsForm(unittest.TestCase):
    def test_forms(self):
        self.assertIs(is_form([[(3, 4)]]), True)
        self.assertIs(is_form([[(0, 1)]]), True)
        self.assertIs(is_form(table_of([[1, HALF], [HALF, -3]])), True)
        for n in SIZES:
            self.assertIs(is_form(plain_table(n)), True)
            for F in forms(n):
                self.assertIs(is_form(F), True)

    def test_one_place_off(self):
        self.assertIs(is_form(table_of([[1, HALF], [-HALF, -3]])), False)
        for n in SIZES[1:]:
            for i in range(n):
                for j in range(n):
                    F = forms(n)[0]
                    F[i][j] = told(known(F[i][j]) + 1)
                    self.assertIs(is_form(F), i == j, (i, j))


class Value(unittest.TestCase):
    def test_told_by_hand(self):
        self.assertEqual(value([[(2, 3)]], [(3, 1)]), (6, 1))
        F = table_of([[1, HALF], [HALF, -3]])
        self.assertEqual(value(F, [(2, 1), (1, 1)]), (3, 1))
        self.assertEqual(value(F, [(1, 2), (-1, 3)]), (-1, 4))
        self.assertEqual(value(table_of([[0, 1], [1, 0]]), [(3, 1), (5, 1)]), (30, 1))

    def test_sum_over_all_two_places(self):
        for n in SIZES:
            source = Source(800 + n)
            for F in forms(n):
                x = source.vector(n)
                answer = value(F, x)
                self.assertEqual(answer, value_by_sums(F, x))
                self.assertTrue(is_fraction(answer))

    def test_noughts(self):
        for n in SIZES:
            self.assertEqual(value(forms(n)[0], [(0, 1)] * n), (0, 1))
            self.assertEqual(value(table_of([[0] * n] * n), Source(n).vector(n)), (0, 1))

    def test_many_figures(self):
        F, x = Source(3).form(4, 10 ** 299), Source(5).vector(4, 10 ** 299)
        self.assertEqual(value(F, x), value_by_sums(F, x))


class Led(unittest.TestCase):
    def test_told_by_hand(self):
        F = table_of([[0, HALF], [HALF, 0]])
        self.assertEqual(led(F, table_of([[1, 1], [1, -1]])), table_of([[1, 0], [0, -1]]))
        self.assertEqual(led([[(2, 1)]], [[(3, 2)]]), [[(9, 2)]])
        # Not the change times the form times the change turned over.
        self.assertEqual(led(table_of([[1, 0], [0, 0]]), table_of([[1, 2], [0, 1]])), table_of([[1, 2], [2, 4]]))

    def test_turned_over_times_form_times_change(self):
        for n in SIZES:
            for F in forms(n, 2):
                for T in changes(n):
                    answer = led(F, T)
                    self.assertEqual(answer, led_by_sums(F, T))
                    self.assertTrue(is_table(answer, n) and is_form(answer))

    def test_values(self):
        for n in SIZES:
            x = Source(900 + n).vector(n)
            for F in forms(n, 2):
                for T in changes(n):
                    self.assertEqual(value(led(F, T), x), value(F, at(T, x)))

    def test_plain_and_back_again(self):
        for n in SIZES:
            for F in forms(n, 2):
                self.assertEqual(led(F, plain_table(n)), F)
                for T in changes(n):
                    self.assertEqual(led(led(F, T), back(T)), F)

    def test_one_change_behind_the_other(self):
        for n in SIZES:
            one, other = changes(n)
            F = forms(n)[1]
            self.assertEqual(led(led(F, one), other), led(F, product(one, other)))


class Beside(unittest.TestCase):
    def test_told_by_hand(self):
        F, G = [[(1, 2)]], table_of([[1, 2], [2, 3]])
        self.assertEqual(beside(F, G), table_of([[HALF, 0, 0], [0, 1, 2], [0, 2, 3]]))
        self.assertEqual(beside(G, F), table_of([[1, 2, 0], [2, 3, 0], [0, 0, HALF]]))

    def test_all_sizes(self):
        for n in range(1, 8):
            for m in range(1, 9 - n):
                F, G = forms(n)[0], forms(m)[1]
                answer = beside(F, G)
                self.assertTrue(is_table(answer, n + m) and is_form(answer))
                for i in range(n + m):
                    for j in range(n + m):
                        wanted = (0, 1)
                        if i < n and j < n:
                            wanted = F[i][j]
                        if i >= n and j >= n:
                            wanted = G[i - n][j - n]
                        self.assertEqual(answer[i][j], wanted)

    def test_values_add_up(self):
        F, G = forms(3)[0], forms(5)[0]
        x, y = Source(1).vector(3), Source(2).vector(5)
        self.assertEqual(known(value(beside(F, G), x + y)), known(value(F, x)) + known(value(G, y)))


class FormOf(unittest.TestCase):
    def test_all_sizes(self):
        self.assertEqual(form_of([(-2, 3)]), [[(-2, 3)]])
        self.assertEqual(form_of([(1, 2), (0, 1)]), table_of([[HALF, 0], [0, 0]]))
        for n in SIZES:
            numbers = Source(n).vector(n)
            answer = form_of(numbers)
            self.assertTrue(is_table(answer, n) and is_form(answer))
            wanted = [[numbers[i] if i == j else (0, 1) for j in range(n)] for i in range(n)]
            self.assertEqual(answer, wanted)


def hollow(n):
    """Noughts in all upright places."""
    return table_of([[int(i != j) for j in range(n)] for i in range(n)])


def crossed(n):
    """Each unknown comes with one other alone."""
    return table_of([[Fraction(i * j + 1, 3) if i + j == n - 1 else 0 for j in range(n)] for i in range(n)])


def lame(n):
    """A form of size n whose row has noughts: all unknowns come as one sum, or as two."""
    sums = [Fraction(i % 3 - 1, i + 1) for i in range(n)]
    others = [Fraction(i % 2 + 1) for i in range(n)]
    return table_of([[sums[i] * sums[j] - 2 * others[i] * others[j] for j in range(n)] for i in range(n)])


def without_unknown(n, place):
    F = forms(n)[0]
    for i in range(n):
        F[place][i] = F[i][place] = (0, 1)
    return F


def sparse(n, count):
    source = Source(1000 + n)
    found = []
    for _ in range(count):
        F = [[0] * n for _ in range(n)]
        for _ in range(source.whole(0, n + 1)):
            i, j = source.whole(0, n - 1), source.whole(0, n - 1)
            F[i][j] = F[j][i] = source.chosen([-2, -1, 1, 2, HALF])
        found.append(table_of(F))
    return found


class Upright(unittest.TestCase):
    def check(self, F):
        n = len(F)
        answer = upright(F)
        self.assertIs(type(answer), tuple)
        numbers, change = answer
        self.assertEqual((numbers, change), upright_by_letter(F), F)
        self.assertIs(type(numbers), list)
        self.assertTrue(all(map(is_fraction, numbers)) and is_table(change, n))
        self.assertEqual(led(F, change), form_of(numbers))
        self.assertIsNotNone(back(change))
        count = len([u for u in numbers if u != (0, 1)])
        self.assertTrue(all(u != (0, 1) for u in numbers[:count]))

    def test_size_one(self):
        for u in ((3, 4), (-3, 4), (0, 1)):
            self.assertEqual(upright([[u]]), ([u], [[(1, 1)]]))

    def test_told_by_hand(self):
        self.assertEqual(upright(table_of([[2, 1], [1, 3]])),
                         ([(2, 1), (5, 2)], table_of([[1, -HALF], [0, 1]])))

    def test_exchange(self):
        self.assertEqual(upright(table_of([[0, 1], [1, 2]])),
                         ([(2, 1), (-1, 2)], table_of([[0, 1], [1, -HALF]])))
        self.assertEqual(upright(table_of([[0, 0], [0, 5]])), ([(5, 1), (0, 1)], table_of([[0, 1], [1, 0]])))

    def test_adding(self):
        self.assertEqual(upright(table_of([[0, HALF], [HALF, 0]])),
                         ([(1, 1), (-1, 4)], table_of([[1, -HALF], [1, HALF]])))
        # The least pair by i, then by j: here the unknowns 1 and 2, then 1 comes to 0.
        self.assertEqual(upright(table_of([[0, 0, 0], [0, 0, 1], [0, 1, 0]])),
                         ([(2, 1), (-1, 2), (0, 1)], table_of([[0, 0, 1], [1, -HALF, 0], [1, HALF, 0]])))

    def test_noughts_behind_all_others(self):
        numbers, change = upright(form_of([(0, 1), (3, 1), (0, 1), (-2, 1)]))
        self.assertEqual(numbers, [(3, 1), (-2, 1), (0, 1), (0, 1)])
        self.assertEqual(change, table_of([[0, 0, 0, 1], [1, 0, 0, 0], [0, 0, 1, 0], [0, 1, 0, 0]]))

    def test_upright_already(self):
        for n in SIZES:
            numbers = [(i - 9, i + 1) for i in range(n)]
            numbers = [told(known(u)) for u in numbers]
            self.assertEqual(upright(form_of(numbers)), (numbers, plain_table(n)))

    def test_all_noughts(self):
        for n in SIZES:
            self.assertEqual(upright(table_of([[0] * n] * n)), ([(0, 1)] * n, plain_table(n)))

    def test_to_the_letter(self):
        for n in SIZES:
            for F in forms(n):
                self.check(F)

    def test_noughts_in_upright_places(self):
        for n in SIZES:
            self.check(hollow(n))
            self.check(crossed(n))
            for F in forms(n, 3):
                for i in range(n):
                    F[i][i] = (0, 1)
                self.check(F)
                F[n // 2][n // 2] = (-1, 3)
                self.check(F)

    def test_few_terms(self):
        for n in SIZES:
            for F in sparse(n, 12):
                self.check(F)

    def test_unknowns_in_no_term(self):
        for n in SIZES:
            for place in range(n):
                F = without_unknown(n, place)
                self.check(F)
                self.assertEqual(upright(F)[0][-1], (0, 1))

    def test_some_noughts_at_the_end(self):
        for n in SIZES:
            self.check(lame(n))
        self.assertEqual(upright(lame(6))[0][2:], [(0, 1)] * 4)

    def test_many_figures(self):
        self.check(Source(21).form(3, 10 ** 299))
        great = 10 ** 299
        self.check(table_of([[0, great, great - 1], [great, 0, 3], [great - 1, 3, 0]]))
        numbers, change = upright(Source(23).form(8, 10 ** 30))
        self.assertEqual(len([u for u in numbers if u != (0, 1)]), 8)
        self.assertEqual(led(Source(23).form(8, 10 ** 30), change), form_of(numbers))


class NothingChangedOrKept(unittest.TestCase):
    def test_all(self):
        for n in SIZES:
            F, T, x = forms(n)[0], changes(n)[0], Source(n).vector(n)
            asked = [(is_form, [F]), (value, [F, x]), (led, [F, T]), (led, [F, plain_table(n)]),
                     (led, [plain_table(n), plain_table(n)]), (form_of, [x]), (upright, [F]), (upright, [hollow(n)]),
                     (upright, [form_of(x)]), (upright, [table_of([[0] * n] * n)])]
            if n < 8:
                asked += [(beside, [F, forms(8 - n)[0]]), (beside, [forms(8 - n)[0], F])]
            if n < 5:
                asked += [(beside, [F, F])]
            for function, handed in asked:
                check_nothing_changed_or_kept(self, function, handed)

    def test_one_list_handed_in_twice(self):
        numbers = [(1, 2), (1, 2)]
        check_nothing_changed_or_kept(self, upright, [[numbers, numbers]])
        check_nothing_changed_or_kept(self, led, [[numbers, numbers], [numbers, [(0, 1), (1, 1)]]])
        check_nothing_changed_or_kept(self, beside, [[numbers, numbers], [numbers, numbers]])


if __name__ == "__main__":
    unittest.main()
