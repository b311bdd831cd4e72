"""Promise 21: steps."""

import itertools
import unittest
from fractions import Fraction

from everyplace.errors import NoRow, NoStep
from everyplace.forms import form_of, led
from everyplace.primes import is_tame
from everyplace.steps import all_stepped, change_of, stepped
from everyplace.tables import plain_table, product
from kept import check_nothing_changed_or_kept
from norows import JUST_ROWS, NO_ROWS
from samples import Source, is_table, known, product_by_sums, told
from search import ABOVE_15, BELOW_15, BELOW_30, free_by_trying, squarefree

GREAT = 2 ** 30
GREAT_PRIME = 536870909
ONE, NOUGHT = (1, 1), (0, 1)


def upright_form(row):
    return form_of([(k, 1) for k in row])


def wanted_row(row, step):
    """By the words of the promise; None where it is no step. The numbers are such that their parts are soon found."""
    i, j, x, y = step
    if not 0 <= i < j < len(row) or (x == NOUGHT and y == NOUGHT):
        return None
    c = row[i] * known(x) ** 2 + row[j] * known(y) ** 2
    if c.denominator != 1 or abs(c) >= GREAT or not squarefree(int(c)):
        return None
    d = free_by_trying(row[i] * row[j] * int(c))
    if abs(d) >= GREAT:
        return None
    return row[:i] + [int(c)] + row[i + 1:j] + [d] + row[j + 1:]


def wanted_change(row, step, after):
    i, j, x, y = step
    a, b, x, y = row[i], row[j], known(x), known(y)
    table = [[Fraction(int(k == h)) for h in range(len(row))] for k in range(len(row))]
    square = Fraction(after[j], a * b * after[i])
    m = Fraction(round(square.numerator ** 0.5), round(square.denominator ** 0.5))
    assert m > 0 and m * m == square
    table[i][i], table[j][i] = x, y
    table[i][j], table[j][j] = -b * y * m, a * x * m
    return [[told(u) for u in numbers] for numbers in table]


class Steps(unittest.TestCase):
    def check(self, row, step):
        wanted = wanted_row(row, step)
        if wanted is None:
            for function in (stepped, change_of):
                with self.assertRaises(NoStep, msg=(row, step)):
                    function(row, step)
            return False
        after, change = stepped(row, step), change_of(row, step)
        self.assertEqual(after, wanted, (row, step))
        self.assertIs(type(after), list)
        self.assertTrue(is_table(change, len(row)))
        self.assertEqual(change, wanted_change(row, step, after), (row, step))
        self.assertEqual(led(upright_form(row), change), upright_form(after))
        return True

    def test_by_hand(self):
        self.assertEqual(stepped([1, 1], (0, 1, ONE, ONE)), [2, 2])
        self.assertEqual(change_of([1, 1], (0, 1, ONE, ONE)), [[ONE, (-1, 1)], [ONE, ONE]])
        self.assertEqual(stepped([2, 3, -5], (0, 2, ONE, ONE)), [-3, 3, 30])
        self.assertEqual(stepped([2, 3, -5], (1, 2, (0, 1), (-1, 1))), [2, -5, 3])
        self.assertEqual(stepped([4, 1], (0, 1, (1, 2), NOUGHT)), [1, 1])
        self.assertEqual(change_of([4, 1], (0, 1, (1, 2), NOUGHT)), [[(1, 2), NOUGHT], [NOUGHT, ONE]])
        self.assertEqual(change_of([2, 3], (0, 1, NOUGHT, ONE)), [[NOUGHT, (-1, 1)], [ONE, NOUGHT]])

    def test_all_small(self):
        fractions = [told(Fraction(a, b)) for a, b in itertools.product(range(-3, 4), range(1, 4))]
        done = 0
        for row in ([1, 1], [1, -1], [2, 3], [-6, 5], [4, 9], [12, -5]):
            for x, y in itertools.product(fractions, repeat=2):
                done += self.check(row, (0, 1, x, y))
        self.assertTrue(done > 300)

    def test_all_lengths_and_places(self):
        source = Source(921)
        done = 0
        for length in range(1, 9):
            for _ in range(40):
                row = [source.whole(1, 40) * source.chosen([1, -1]) for _ in range(length)]
                x, y = told(source.whole(-4, 4)), told(source.whole(-4, 4))
                for i, j in itertools.product(range(-1, length + 1), repeat=2):
                    done += self.check(row, (i, j, x, y))
        self.assertTrue(done > 1000)

    def test_not_tame(self):
        for a, b in ((BELOW_30, GREAT_PRIME), (-BELOW_30, GREAT_PRIME), (BELOW_30, -GREAT_PRIME), (ABOVE_15, 1000003)):
            self.assertFalse(is_tame(a * b * b))
            for x, y in ((NOUGHT, ONE), (NOUGHT, (-1, 1)), (ONE, NOUGHT)):
                for row in ([a, b], [a, 3, b], [7, a, 1, b, 2]):
                    i, j = row.index(a), row.index(b)
                    after = stepped(row, (i, j, x, y))
                    self.assertEqual((after[i], after[j]), (b, a) if x == NOUGHT else (a, b))
                    change = change_of(row, (i, j, x, y))
                    self.assertEqual(led(upright_form(row), change), upright_form(after))
        # These come to 1, so that the second would be their product, not tame and too great: no step, not TooGreat.
        with self.assertRaises(NoStep):
            stepped([BELOW_30, -(BELOW_30 - 1)], (0, 1, ONE, ONE))

    def test_great_fractions(self):
        # 3 and 1 times the squares of p and q over r come to 1 where pp * 3 + qq is rr.
        u, v = 10 ** 40 + 7, 10 ** 39 + 11
        p, q, r = 2 * u * v, u * u - 3 * v * v, u * u + 3 * v * v
        step = (0, 1, told(Fraction(p, r)), told(Fraction(q, r)))
        self.assertEqual(stepped([3, 1], step), [1, 3])
        self.assertEqual(led(upright_form([3, 1]), change_of([3, 1], step)), upright_form([1, 3]))
        with self.assertRaises(NoStep):
            stepped([3, 1], (0, 1, (10 ** 290 + 1, 1), (3, 1)))
        with self.assertRaises(NoStep):
            stepped([3, 1], (0, 1, (1, 10 ** 290), (3, 7 ** 300)))


class NoSteps(unittest.TestCase):
    def refused(self, row, step):
        for function, handed in ((stepped, step), (change_of, step), (all_stepped, [step])):
            with self.assertRaises(NoStep, msg=(row, step)):
                function(row, handed)

    def test_places(self):
        for i, j in ((0, 0), (1, 0), (2, 1), (1, 1), (-1, 1), (-2, -1), (0, 3), (0, -1), (1, 3), (3, 4), (10 ** 40, 2),
                     (0, 10 ** 40), (-10 ** 40, 1)):
            self.refused([1, 1, 1], (i, j, ONE, ONE))
            self.refused([1, 1, 1], (i, j, ONE, NOUGHT))
        self.refused([1], (0, 1, ONE, NOUGHT))
        self.refused([1], (0, 0, ONE, NOUGHT))

    def test_noughts(self):
        for row in ([1, 1], [1, -1], [17, 4, 9]):
            self.refused(row, (0, 1, NOUGHT, NOUGHT))
        self.refused([1, -1], (0, 1, ONE, ONE))
        self.refused([1, -1], (0, 1, (3, 7), (-3, 7)))
        self.refused([2, -8], (0, 1, (2, 1), ONE))

    def test_not_whole(self):
        for x, y in (((1, 2), NOUGHT), ((1, 2), (1, 2)), ((1, 3), ONE), (NOUGHT, (1, 7)), ((3, 5), (3, 5))):
            self.refused([1, 1], (0, 1, x, y))

    def test_not_free_of_squares(self):
        for row, x, y in (([1, 1], (2, 1), NOUGHT), ([1, 1], (2, 1), (2, 1)), ([4, 1], ONE, NOUGHT), ([1, 3], ONE, ONE),
                          ([1, 1], NOUGHT, (-3, 1)), ([2, 2], ONE, ONE), ([5, -1], ONE, ONE), ([1, 1], (3, 1), (3, 1)),
                          ([BELOW_15 ** 2, 1], ONE, NOUGHT)):
            self.refused(row, (0, 1, x, y))

    def test_not_below_two_to_the_thirty(self):
        # Of 1 and 1 both numbers are the sum of the squares.
        below = next(y for y in range(255, 0, -1) if squarefree(32767 ** 2 + y * y))
        above = next(y for y in range(256, 999) if squarefree(32767 ** 2 + y * y))
        self.assertEqual(stepped([1, 1], (0, 1, (32767, 1), (below, 1))), [32767 ** 2 + below * below] * 2)
        self.assertEqual(stepped([-1, -1], (0, 1, (32767, 1), (below, 1))), [-32767 ** 2 - below * below] * 2)
        self.refused([1, 1], (0, 1, (32767, 1), (above, 1)))
        self.refused([-1, -1], (0, 1, (32767, 1), (above, 1)))
        self.refused([1, 1], (0, 1, (10 ** 30, 1), ONE))

    def test_the_second_number(self):
        # Of a and 1 - a the first number is 1, the second their product.
        def is_step(a):
            return squarefree(a) and squarefree(a - 1)
        below = next(a for a in range(32768, 0, -1) if is_step(a))
        above = next(a for a in range(32769, 99999) if is_step(a))
        self.assertEqual(stepped([below, 1 - below], (0, 1, ONE, ONE)), [1, below * (1 - below)])
        self.refused([above, 1 - above], (0, 1, ONE, ONE))
        self.refused([1 - above, above], (0, 1, ONE, ONE))
        self.refused([BELOW_30, 1 - BELOW_30], (0, 1, ONE, ONE))

    def test_no_row_goes_ahead(self):
        for row in NO_ROWS:
            for step in ((0, 1, ONE, ONE), (1, 0, NOUGHT, NOUGHT)):
                for function, handed in ((stepped, step), (change_of, step), (all_stepped, [step]), (all_stepped, [])):
                    with self.assertRaises(NoRow, msg=row):
                        function(row, handed)


class AllSteps(unittest.TestCase):
    def test_none(self):
        for row in ([5], [4, -9, 1], [BELOW_30] * 8) + JUST_ROWS:
            self.assertEqual(all_stepped(row, []), (row, plain_table(len(row))))

    def test_one_behind_the_other(self):
        source = Source(922)
        longest = 0
        for length in range(2, 9):
            for _ in range(6):
                first = [source.whole(1, 12) * source.chosen([1, -1]) for _ in range(length)]
                row, steps, table = first, [], plain_table(length)
                for _ in range(30):
                    i, j = sorted((source.whole(0, length - 1), source.whole(0, length - 1)))
                    step = (i, j, told(source.whole(-2, 2)), told(source.whole(-2, 2)))
                    if wanted_row(row, step) is not None and len(steps) < 7:
                        table = product_by_sums(table, change_of(row, step))
                        row = stepped(row, step)
                        steps.append(step)
                longest = max(longest, len(steps))
                self.assertEqual(all_stepped(first, steps), (row, table))
                self.assertEqual(led(upright_form(first), table), upright_form(row))
                self.assertIs(type(all_stepped(first, steps)), tuple)
        self.assertEqual(longest, 7)

    def test_the_order_matters(self):
        one, other = (0, 1, ONE, ONE), (0, 2, ONE, ONE)
        self.assertEqual(all_stepped([1, 1, 1], [one, other])[0], [3, 2, 6])
        self.assertEqual(all_stepped([1, 1, 1], [other, one])[0], [3, 6, 2])
        changes = product(change_of([1, 1, 1], one), change_of([2, 2, 1], other))
        self.assertEqual(all_stepped([1, 1, 1], [one, other])[1], changes)

    def test_one_that_is_no_step(self):
        good = (0, 1, ONE, ONE)
        for bad in ((1, 0, ONE, ONE), (0, 1, NOUGHT, NOUGHT), (0, 2, ONE, ONE), (0, 1, (1, 3), NOUGHT)):
            for steps in ([bad], [good, bad], [bad, good], [good, (0, 1, NOUGHT, ONE), bad]):
                with self.assertRaises(NoStep):
                    all_stepped([1, 1], steps)

    def test_what_is_a_step_hangs_on_the_row_so_far(self):
        # Of 2 and 2 the half and half make 1; of 1 and 1 they don't.
        half = (0, 1, (1, 2), (1, 2))
        self.assertEqual(all_stepped([1, 1], [(0, 1, ONE, ONE), half])[0], [1, 1])
        with self.assertRaises(NoStep):
            all_stepped([1, 1], [half])


class NothingChangedOrKept(unittest.TestCase):
    def test_all(self):
        steps = [(0, 1, ONE, ONE), (0, 2, NOUGHT, ONE), (1, 2, ONE, NOUGHT)]
        for row in ([1, 1, 1], [2, 3, 5, -7], [-1, 2, 1, 1, 1, 1, 1, 1]):
            for step in steps:
                check_nothing_changed_or_kept(self, stepped, [row, step])
                check_nothing_changed_or_kept(self, change_of, [row, step])
            for handed in ([], steps[:1], steps):
                check_nothing_changed_or_kept(self, all_stepped, [row, handed])


if __name__ == "__main__":
    unittest.main()
