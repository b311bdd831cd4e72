"""Promise 22: alike rows, and what parts two rows."""

import itertools
import math
import unittest

from everyplace.alike import leading, parting
from everyplace.errors import NoRow, NoStep, TooGreat
from everyplace.forms import form_of, led
from everyplace.places import says
from everyplace.rows import number_of
from everyplace.steps import all_stepped, stepped
from everyplace.tables import back
from kept import check_nothing_changed_or_kept
from norows import JUST_ROWS, NO_ROWS
from samples import Source, is_fraction, is_table
from search import ABOVE_15, BELOW_15, BELOW_30, PRIMES, squarefree
from smalls import GREAT, PLACES, SMALL_FREE, numbers_of, small_rows

GREAT_PRIMES = (BELOW_15, ABOVE_15, 1000003, 536870909, BELOW_30)


def upright_form(row):
    return form_of([(k, 1) for k in row])


def noes(row, places):
    return [p for p in places if sum(not says(a, b, p) for a, b in itertools.combinations(row, 2)) % 2 == 1]


def parting_by_words(one, other, places):
    if len(one) != len(other):
        return ("size",)
    if sum(k > 0 for k in one) != sum(k > 0 for k in other):
        return ("signs",)
    product = math.prod(one) * math.prod(other)
    if product < 0 or math.isqrt(product) ** 2 != product:
        return ("number",)
    apart = set(noes(one, places)) ^ set(noes(other, places))
    return ("place", min(apart)) if apart else None


def alike_groups(rows):
    """The rows, those that are alike together."""
    groups = {}
    for row in rows:
        root = math.prod(row)
        for p in PLACES[1:]:
            while root % (p * p) == 0:
                root //= p * p
        groups.setdefault((sum(k > 0 for k in row), root, tuple(noes(row, PLACES))), []).append(list(row))
    return [group for group in groups.values() if len(group) > 1]


class Parting(unittest.TestCase):
    def check(self, one, other, places=PLACES):
        wanted = parting_by_words(one, other, places)
        for answer in (parting(one, other), parting(other, one)):
            self.assertEqual(answer, wanted, (one, other))
            self.assertIs(type(answer), type(wanted))
        return wanted

    def test_by_hand(self):
        self.assertEqual(parting([1], [1, 1]), ("size",))
        self.assertEqual(parting([1, 1], [1, -1]), ("signs",))
        self.assertEqual(parting([1, 1], [1, 2]), ("number",))
        self.assertEqual(parting([1, 1], [3, 3]), ("place", 2))
        self.assertEqual(parting([1, 1, 1], [1, 3, 3]), ("place", 2))
        self.assertEqual(parting([1, 5, 5], [1, 3, 3]), ("place", 2))
        self.assertIsNone(parting([1, 1], [2, 2]))
        self.assertIsNone(parting([1, -1], [30030, -30030]))
        self.assertIsNone(parting([1], [1]))
        self.assertIsNone(parting([1], [9]))
        self.assertIsNone(parting([2, 3], [3, 2]))
        self.assertEqual(parting([1], [-1]), ("signs",))
        self.assertEqual(parting([1], [2]), ("number",))

    def test_the_order_of_what_parts(self):
        self.assertEqual(parting([1, 1], [-1, 2, 7]), ("size",))
        self.assertEqual(parting([1] * 8, [-17]), ("size",))
        self.assertEqual(parting([1, 1], [-1, 2]), ("signs",))
        self.assertEqual(parting([1, 1, -1], [-1, -3, -1]), ("signs",))
        self.assertEqual(parting([1, 1], [3, 6]), ("number",))
        self.assertEqual(parting([1, -1], [3, -7]), ("number",))

    def test_the_first_place(self):
        self.assertEqual(parting([1, -3], [2, -6]), ("place", 2))
        self.assertEqual(parting([1, -13], [2, -26]), ("place", 2))
        self.assertEqual(parting([1, -15], [3, -5]), parting_by_words([1, -15], [3, -5], PLACES))
        self.assertEqual(parting([1, -5 * 7], [5, -7]), parting_by_words([1, -35], [5, -7], PLACES))
        seen = set()
        for group in itertools.combinations(SMALL_FREE[:40], 2):
            for k in (3, 5, 7, 11, 13, -1, 17, -19):
                answer = self.check(list(group), [group[0] * k, group[1] * k], PLACES + (17, 19))
                if answer is not None and answer[0] == "place":
                    seen.add(answer[1])
        self.assertTrue({2, 3, 5, 7, 11, 13} <= seen, seen)

    def test_small_rows(self):
        source = Source(931)
        told = {}
        for length in range(1, 9):
            for numbers in (numbers_of((2,)), numbers_of((2, 3)), SMALL_FREE):
                for one, other in zip(small_rows(source, 60, length, numbers), small_rows(source, 60, length, numbers)):
                    answer = self.check(one, other)
                    told[answer and answer[0]] = told.get(answer and answer[0], 0) + 1
        self.assertTrue(min(told[key] for key in (None, "signs", "number", "place")) > 20, told)

    def test_one_sign_and_number(self):
        source = Source(932)
        for length in range(2, 9):
            for row in small_rows(source, 20, length, square=3):
                k = source.chosen([2, 3, 5, 7, 6, 35])
                self.check(row, [row[0] * k, row[1] * k] + row[2:])
                self.check(row, list(reversed(row)))
                self.check(row, [row[0] * 49] + row[1:])

    def test_great_numbers_whose_number_is_not_told(self):
        row = [BELOW_30, 536870909, 1000003, 7]
        with self.assertRaises(TooGreat):
            number_of(row)
        places = sorted((0, 2, 3, 5, 7) + GREAT_PRIMES)
        others = ([7, 1000003, 536870909, BELOW_30], [BELOW_30, 536870909, 1000003, 11], [BELOW_30, 536870909, 1000003],
                  [-BELOW_30, 536870909, 1000003, 7], [BELOW_30, 536870909, 1000003 * 4, 7 * 9],
                  [BELOW_30, 536870909, 3 * 1000003, 21], [BELOW_30, 536870909, 5 * 1000003, 35],
                  [BELOW_30, 536870909, 1, 7], [BELOW_30, BELOW_30, 1000003, 7])
        told = {self.check(row, other, places + [11]) for other in others}
        self.assertTrue({None, ("size",), ("signs",), ("number",)} <= told)
        source = Source(933)
        for length in range(1, 9):
            for _ in range(6):
                one = [source.chosen(GREAT_PRIMES) * source.chosen([1, -1]) for _ in range(length)]
                self.check(one, [source.chosen(GREAT_PRIMES) * source.chosen([1, -1]) for _ in range(length)], places)
                self.check(one, one[::-1], places)

    def test_a_great_prime_parts(self):
        for p in GREAT_PRIMES:
            no = next(k for k in PRIMES if pow(k, (p - 1) // 2, p) == p - 1)
            one, other = [1, -p], [no, -p * no]
            if p * no < GREAT:
                places = sorted({0, 2, no, p})
                self.assertIn(p, set(noes(one, places)) ^ set(noes(other, places)))
                self.check(one, other, places)

    def test_alike_by_steps(self):
        """What a step leads to is alike."""
        source = Source(934)
        done = 0
        while done < 60:
            row = [source.chosen(SMALL_FREE[:30]) for _ in range(source.whole(2, 8))]
            try:
                after = stepped(row, (0, len(row) - 1, (source.whole(-9, 9), 1), (source.whole(-9, 9), 1)))
            except NoStep:
                continue
            done += 1
            self.assertIsNone(parting(row, after))

    def test_kinds(self):
        self.assertIs(type(parting([1], [1, 1])), tuple)
        self.assertIs(type(parting([1, 1], [3, 3])[1]), int)

    def test_no_row(self):
        for row in NO_ROWS:
            for good in ([1], [17, 5, 1], [1] * 8):
                with self.assertRaises(NoRow):
                    parting(row, good)
                with self.assertRaises(NoRow):
                    parting(good, row)
                with self.assertRaises(NoRow):
                    leading(row, good)
                with self.assertRaises(NoRow):
                    leading(good, row)
        for row in JUST_ROWS:
            self.assertIsNone(parting(row, row))


class Leading(unittest.TestCase):
    def check(self, one, other):
        answer = leading(one, other)
        self.assertIs(type(answer), tuple, (one, other))
        steps, order, table = answer
        self.assertIs(type(steps), list)
        for step in steps:
            self.assertIs(type(step), tuple)
            self.assertTrue(type(step[0]) is int and type(step[1]) is int and len(step) == 4)
            self.assertTrue(is_fraction(step[2]) and is_fraction(step[3]))
        self.assertIs(type(order), list)
        self.assertEqual(sorted(order), list(range(len(one))))
        after = all_stepped(one, steps)[0]
        self.assertEqual([after[k] for k in order], other, (one, other))
        self.assertTrue(is_table(table, len(one)))
        self.assertEqual(led(upright_form(one), table), upright_form(other), (one, other))
        self.assertIsNotNone(back(table))

    def test_rows_of_one(self):
        for k in SMALL_FREE:
            self.check([k], [k])
            self.assertIsNone(leading([k], [-k]))
        self.assertIsNone(leading([2], [3]))

    def test_rows_of_two(self):
        groups = alike_groups(itertools.product(SMALL_FREE[:36], repeat=2))
        self.assertTrue(len(groups) > 100)
        for group in groups:
            for one, other in list(zip(group, group[1:] + group[:1]))[:12]:
                self.check(one, other)

    def test_rows_of_three_of_few_primes(self):
        for numbers in (numbers_of((2,)), numbers_of((3,)) + [2], [1, -1, 7, -7, 6, -10]):
            for group in alike_groups(itertools.product(numbers, repeat=3)):
                for one, other in list(zip(group, group[1:] + group[:1]))[:12]:
                    self.check(one, other)

    def test_rows_of_three(self):
        source = Source(935)
        groups = alike_groups(small_rows(source, 6000, 3))
        self.assertTrue(len(groups) > 100)
        for group in groups:
            self.check(group[0], group[1])
            self.check(group[1], group[0])

    def test_itself_and_in_another_order(self):
        source = Source(936)
        for length in (1, 2, 3):
            for row in small_rows(source, 10, length):
                for other in itertools.permutations(row):
                    self.check(row, list(other))

    def test_none(self):
        source = Source(937)
        seen = {}
        for length in (1, 2, 3):
            for numbers in (numbers_of((2, 3)), SMALL_FREE):
                for one, other in zip(small_rows(source, 60, length, numbers), small_rows(source, 60, length, numbers)):
                    apart = parting(one, other)
                    if apart is not None:
                        self.assertIsNone(leading(one, other), (one, other))
                        seen[apart[0]] = True
        self.assertEqual(sorted(seen), ["number", "place", "signs"])
        self.assertIsNone(leading([1], [1, 1]))
        self.assertIsNone(leading([1, 1, 1], [1, 1]))

    def test_too_great(self):
        for bad in ([17], [4], [-9], [1, 17], [1, 12], [1, 1, 19], [1, 1, 49], [1, 1, 1, 1], [1] * 8, [BELOW_30],
                    [1, 2, BELOW_15], [30030 * 4, 1], [17 * 17, 1, 1]):
            for other in (bad, [1], [1, 1], [1, 1, 1], [-1, 30030, 7], [1, 1, 1, 1]):
                with self.assertRaises(TooGreat, msg=(bad, other)):
                    leading(bad, other)
                with self.assertRaises(TooGreat, msg=(other, bad)):
                    leading(other, bad)

    def test_the_longest_numbers(self):
        self.check([30030, 30030, 30030], [30030] * 3)
        self.check([30030, -30030, 1], [1, 15015, -15015])
        self.check([30030, -15015, 1001], [30030, 1001, -15015])
        self.assertTrue(all(squarefree(k) for k in SMALL_FREE))


class NothingChangedOrKept(unittest.TestCase):
    def test_all(self):
        for one, other in (([1], [1]), ([1, 1], [2, 2]), ([1, 1, 1], [1, 2, 2]), ([1, 1, 1], [2, 3, 6]),
                           ([1, 2], [1, 3]),
                           ([1, 1, -1], [30, -30, 1]), ([1, 1], [3, 3]), ([6], [-6])):
            check_nothing_changed_or_kept(self, parting, [one, other])
            check_nothing_changed_or_kept(self, leading, [one, other])


if __name__ == "__main__":
    unittest.main()
