"""Promise 23: plain pairs, and the rest without a zero."""

import itertools
import unittest

from everyplace.alike import parting
from everyplace.errors import NoRow, NoStep, TooGreat
from everyplace.forms import form_of, led
from everyplace.pairs import how_many_pairs, parted
from everyplace.rows import first_without
from everyplace.steps import all_stepped, stepped
from everyplace.zeros import values_for
from kept import check_nothing_changed_or_kept
from norows import JUST_ROWS, NO_ROWS
from samples import Source, is_fraction
from search import ABOVE_15, BELOW_15, BELOW_30, free_by_trying
from smalls import GREAT, SMALL_FREE, has_zero, numbers_of, small_rows, with_great_square

GREAT_PRIMES = (BELOW_15, ABOVE_15, 1000003, 536870909, BELOW_30)

# Rows without a zero, by a place of each kind.
RESTS = ([], [1], [-6], [BELOW_30], [1, 1], [1, -2], [-3, 5], [1, 1000003], [1, 1, 1], [1, 1, -3], [-1, -1, 3],
         [1, -2, 5],
         [1, 1, 1, 1], [1, 1, 1, -7], [1, 1, -3, -3], [1, -2, 5, -10], [-1, -1, 7, 7], [2, 3, 5, 7], [1] * 5,
         [-1, -2, -3, -5, -7, -30], [BELOW_30] * 6, [1, 2, 3, 4, 5, 6, 7, 8], [-1000003] * 8)


def upright_form(row):
    return form_of([(k, 1) for k in row])


def disguised(source, row, often):
    """The row led by some steps to one that is alike."""
    for _ in range(often):
        i, j = sorted((source.whole(0, len(row) - 1), source.whole(0, len(row) - 1)))
        try:
            row = stepped(row, (i, j, (source.whole(-5, 5), 1), (source.whole(-5, 5), 1)))
        except NoStep:
            pass
    return row


class HowMany(unittest.TestCase):
    def check(self, row, wanted):
        answer = how_many_pairs(row)
        self.assertEqual(answer, wanted, row)
        self.assertIs(type(answer), int)

    def test_by_hand(self):
        for row, wanted in (([1], 0), ([1, 1], 0), ([1, -1], 1), ([1, -4], 1), ([1, -2], 0), ([1, 1, -1], 1),
                            ([1, 1, -2], 1),
                            ([1, 1, -3], 0), ([1, 1, 1, -1], 1), ([1, 1, -1, -1], 2), ([1, 2, -1, -2], 2),
                            ([1, 1, -2, -2], 2), ([1, 1, -3, -3], 0), ([1, 1, 1, -7], 0), ([1, 1, 1, 1, -7], 1),
                            ([1, 1, -3, -3, 1], 1), ([1, 1, -3, -3, 1, -3], 2), ([1, -1] * 4, 4),
                            ([1] * 4 + [-1] * 4, 4),
                            ([1] * 4 + [-7] * 4, 4), ([1, 1, 1, 1, -1, -1, -1, -2], 3), ([1] * 7 + [-1], 1),
                            ([1] * 8, 0)):
            self.check(row, wanted)

    def test_rows_of_two_to_four_by_zeros(self):
        """One pair just where there is a zero; of four two just where the product is a square, too."""
        source = Source(941)
        for length in (1, 2, 3, 4):
            for row in small_rows(source, 80, length) + small_rows(source, 80, length, numbers_of((2, 3))):
                zero = length > 1 and has_zero(row)
                wanted = int(zero)
                if zero and length == 4 and free_by_trying(row[0] * row[1] * row[2] * row[3]) == 1:
                    wanted = 2
                self.check(row, wanted)

    def test_pairs_put_to_rests(self):
        source = Source(942)
        for rest in RESTS:
            self.assertTrue(rest == [] or first_without(rest) is not None, rest)
            for often in range((8 - len(rest)) // 2 + 1):
                for _ in range(3):
                    row = list(rest)
                    for _ in range(often):
                        t = source.chosen(SMALL_FREE[:40] + [BELOW_30, 1000003, 17])
                        row = [t] + row + [-t * source.whole(1, 20000 // abs(t) + 1) ** 2 if t < 9 else -t]
                    row = [k for k in row if abs(k) < GREAT]
                    if row and len(row) == len(rest) + 2 * often:
                        self.check(row, often)
                        self.check(disguised(source, row, 12), often)

    def test_each_number_of_pairs_of_eight(self):
        source = Source(943)
        for rest in ([], [1, 1], [2, -3], [1, 1, 1, 1], [1, 1, -3, -3], [1, 1, -7, -7], [3] * 6):
            often = (8 - len(rest)) // 2
            for row in small_rows(source, 15, often, SMALL_FREE[:20]):
                self.check(disguised(source, rest + row + [-k for k in row], 15), often)

    def test_one_prime_alone_bars(self):
        # The last place, an odd prime, leaves fewer pairs than all others do.
        for p in (3, 7, 11, 1000003, BELOW_30):
            if p % 4 == 3:
                self.check([1, 1, -p, -p], 0)
                self.check([1, 1, -p, -p, 1, -1], 1)
                self.check([1, 1, -p, -p, 5, -5, 1, -1], 2)
                # Of two and two such four, 1, 1, 1, 1 and as many -p: both make the same numbers.
                self.check([1, 1, -p, -p] * 2, 4)

    def test_a_number_that_is_no_square(self):
        # Nothing bars these at 0 and at primes that divide them, but the number does at others.
        self.check([1, -17 * 1], 0)
        self.check([1, 1, -1, -17], 1)
        self.check([1, 1, 1, -1, -1, -17], 2)
        self.check([1, 1, 1, 1, -1, -1, -1, -BELOW_30], 3)
        self.check([1, -BELOW_15 ** 2], 1)

    def test_great(self):
        for p in GREAT_PRIMES:
            self.check([p], 0)
            self.check([p, -p], 1)
            self.check([p, p, -p, -p], 2)
            self.check([p, -1, 1, -p, 7, 5, -7, -5], 4)
            self.check([p] * 8, 0)
        for row in JUST_ROWS:
            answer = how_many_pairs(row)
            self.assertEqual(answer > 0, first_without(row) is None)

    def test_as_many_of_alike_rows(self):
        source = Source(944)
        for length in range(2, 9):
            for row in small_rows(source, 25, length, SMALL_FREE[:24]):
                self.check(disguised(source, row, 10), how_many_pairs(row))
                self.check([k * 9 for k in row], how_many_pairs(row))
                self.check(row[::-1], how_many_pairs(row))

    def test_a_pair_more(self):
        source = Source(945)
        for length in range(1, 7):
            for row in small_rows(source, 40, length):
                t = source.chosen(SMALL_FREE)
                self.check(row + [t, -t], how_many_pairs(row) + 1)

    def test_no_row(self):
        for row in NO_ROWS:
            for function in (how_many_pairs, parted):
                with self.assertRaises(NoRow, msg=row):
                    function(row)


class Parted(unittest.TestCase):
    def check(self, row):
        answer = parted(row)
        self.assertIs(type(answer), tuple)
        steps, often = answer
        self.assertIs(type(steps), list)
        for step in steps:
            self.assertTrue(type(step) is tuple and len(step) == 4 and is_fraction(step[2]) and is_fraction(step[3]))
        after, change = all_stepped(row, steps)
        self.assertEqual(led(upright_form(row), change), upright_form(after))
        self.assertEqual(often, how_many_pairs(row))
        for k in range(often):
            self.assertEqual(after[2 * k], -after[2 * k + 1], row)
        rest = after[2 * often:]
        self.assertTrue(rest == [] or first_without(rest) is not None, row)
        return often, rest

    def test_rows_of_one_and_two(self):
        for a, b in itertools.product(SMALL_FREE[:30], repeat=2):
            self.assertEqual(self.check([a]), (0, [a]))
            self.assertEqual(self.check([a, b])[0], int(a == -b))

    def test_rows_of_three(self):
        for row in itertools.product(numbers_of((2, 3)) + [5, -7], repeat=3):
            self.assertEqual(self.check(list(row))[0], int(has_zero(row)))
        for row in small_rows(Source(946), 150, 3):
            self.assertEqual(self.check(row)[0], int(has_zero(row)))

    def test_rows_of_four(self):
        seen = [0, 0, 0]
        source = Source(947)
        for row in small_rows(source, 250, 4) + small_rows(source, 250, 4, numbers_of((2, 3))):
            seen[self.check(row)[0]] += 1
        for a, b, c in small_rows(source, 150, 3):
            seen[self.check([a, b, c, free_by_trying(a * b * c)])[0]] += 1
        self.assertTrue(min(seen) > 20, seen)

    def test_pairs_that_are_there(self):
        for row in ([1, -1, 2], [1, 2, -1], [2, 1, -1], [30030, -30030, 7], [1, -1, 2, -2], [1, 2, -1, -2],
                    [1, 2, -2, -1],
                    [1, -1, 1, -1], [1, 1, -1, -1], [1, -1, 1, 1], [1, 1, 1, -1], [7, 5, 3, -3]):
            self.assertEqual(self.check(row)[0], 2 if sum(row) == 0 and len(row) == 4 else 1)

    def test_rests_of_alike_rows_are_alike(self):
        source = Source(948)
        done = 0
        while done < 80:
            row = [source.chosen(SMALL_FREE[:16]) for _ in range(source.whole(3, 4))]
            other = disguised(source, row, 3)
            if other != row and all(k in SMALL_FREE for k in other):
                done += 1
                one, two = self.check(row), self.check(other)
                self.assertEqual(one[0], two[0])
                self.assertIsNone(parting(one[1], two[1]) if one[1] else None)

    def test_a_plain_pair_makes_every_number(self):
        for t in (1, -2, 15, 30030):
            for c in SMALL_FREE[:20]:
                self.assertIsNotNone(values_for([t, -t], c))

    def test_too_great(self):
        for row in ([17], [4], [-4], [1, 17], [1, -4], [1, 1, 19], [1, 1, 1, 9], [1] * 5, [1] * 8, [1, -1] * 3,
                    [BELOW_30],
                    [1, 1, -1, 17], [with_great_square(2), 1], [17, -17, 1, 1], [1, 1, 1, 1, 17]):
            with self.assertRaises(TooGreat, msg=row):
                parted(row)


class NothingChangedOrKept(unittest.TestCase):
    def test_all(self):
        for row in ([1], [1, -1], [1, 2], [1, 1, -2], [1, 1, -3], [1, 2, 3, -1], [1, -1, 1, -1], [1, 1, 1, 1]):
            check_nothing_changed_or_kept(self, parted, [row])
            check_nothing_changed_or_kept(self, how_many_pairs, [row])
        check_nothing_changed_or_kept(self, how_many_pairs, [[BELOW_30, 1, -1, 5, 7, -9, 12, 3]])


if __name__ == "__main__":
    unittest.main()
