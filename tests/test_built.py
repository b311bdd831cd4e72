"""Promise 24: rows with wished noes."""

import itertools
import unittest

from everyplace.built import built, can_be
from everyplace.rows import noes_of, number_of, signs_of
from kept import check_nothing_changed_or_kept
from samples import Source
from search import squarefree
from smalls import GREAT, PLACES, SMALL_FREE, numbers_of, small_rows

NOES = [list(some) for length in range(8) for some in itertools.combinations(PLACES, length)]


def is_square_there(k, p):
    """Of a number free of squares."""
    if p == 0:
        return k > 0
    if p == 2:
        return k % 8 == 1
    return k % p != 0 and pow(k, (p - 1) // 2, p) == 1


def can_be_by_words(size, signs, number, noes):
    q = size - signs
    rules = [(number < 0) == (q % 2 == 1), len(noes) % 2 == 0, (0 in noes) == (q * (q - 1) // 2 % 2 == 1)]
    if size == 1:
        rules.append(noes == [])
    if size == 2:
        rules.append(not any(is_square_there(-number, p) for p in noes))
    return all(rules)


def fitting(source, size):
    """A wish that keeps to all rules but, perhaps, those of the sizes 1 and 2."""
    signs = source.whole(0, size)
    q = size - signs
    noes = [p for p in PLACES[1:] if source.whole(0, 1) == 1]
    if q * (q - 1) // 2 % 2 == 1:
        noes = [0] + noes
    if len(noes) % 2 == 1:
        noes = sorted(set(noes) ^ {source.chosen(PLACES[1:])})
    return size, signs, abs(source.chosen(SMALL_FREE)) * (-1) ** q, noes


class Wishes(unittest.TestCase):
    def check(self, wish):
        wanted = can_be_by_words(*wish)
        self.assertIs(can_be(wish), wanted, wish)
        row = built(wish)
        if not wanted:
            self.assertIsNone(row, wish)
            return False
        self.assertIs(type(row), list)
        self.assertEqual(len(row), wish[0])
        self.assertTrue(all(type(k) is int and abs(k) < GREAT and squarefree(k) for k in row), wish)
        self.assertEqual((signs_of(row), number_of(row), noes_of(row)), wish[1:], wish)
        return True

    def test_by_hand(self):
        self.assertEqual(built((1, 1, 6, [])), [6])
        self.assertEqual(built((1, 0, -30030, [])), [-30030])
        for wish in ((1, 1, 6, [2, 3]), (1, 1, -6, []), (1, 0, 6, []), (2, 2, 1, [2]), (2, 2, 1, [0, 2]), (2, 0, 1, []),
                     (2, 1, -1, [2, 3]), (3, 3, 1, [3]), (3, 0, -1, [2, 3]), (8, 8, -1, []), (8, 8, 1, [0, 2]),
                     (4, 1, -1, []), (2, 2, 1, [2, 5]), (2, 2, 3, [7, 11])):
            self.assertIs(can_be(wish), False, wish)
            self.assertIsNone(built(wish), wish)
        for wish in ((2, 2, 1, [2, 3]), (2, 0, 1, [0, 2]), (3, 3, 1, [2, 3]), (3, 0, -1, [0, 2]), (4, 2, 1, [0, 13]),
                     (8, 8, 1, []), (8, 0, 1, []), (8, 8, 30030, [2, 3, 5, 7, 11, 13]), (5, 0, -1, [])):
            self.assertTrue(self.check(wish), wish)

    def test_size_one(self):
        for signs, number in itertools.product((0, 1), SMALL_FREE):
            for noes in ([], [2, 3], [0, 2], [0], [5, 13]):
                self.check((1, signs, number, noes))

    def test_size_two_with_all_noes(self):
        done = 0
        for signs in (0, 1, 2):
            for number in numbers_of((2, 3)) + [5, -7, -15, -39, 30030, -30030, -1001]:
                for noes in NOES:
                    done += self.check((2, signs, number, noes))
        self.assertTrue(done > 200, done)

    def test_size_two_where_minus_the_number_is_a_square(self):
        for number in (-1, 7, -10, -6, 3, 2, -14, -3, -15):
            for p in PLACES[1:]:
                for other in PLACES[1:]:
                    if p < other:
                        self.check((2, 2 if number > 0 else 1, number, [p, other]))
        self.assertTrue(is_square_there(10, 3) and not can_be((2, 1, -10, [3, 5])) and can_be((2, 1, -10, [2, 5])))

    def test_each_rule_from_size_three_on(self):
        source = Source(951)
        for size in range(3, 9):
            for _ in range(40):
                size, signs, number, noes = fitting(source, size)
                self.assertTrue(self.check((size, signs, number, noes)))
                self.assertFalse(self.check((size, signs, -number, noes)))
                self.assertFalse(self.check((size, signs, number, sorted(set(noes) ^ {3}))))
                self.assertFalse(self.check((size, signs, number, sorted(set(noes) ^ {0, 2}))))
                self.assertTrue(self.check((size, signs, number, sorted(set(noes) ^ {5, 11}))))

    def test_each_size_and_signs(self):
        for size in range(1, 9):
            for signs in range(size + 1):
                for number in (1, -1, 2, -30030, 15015, -13):
                    for noes in ([], [0, 2], [2, 3], [0, 13], [0, 3, 5, 11], [2, 3, 5, 7, 11, 13], [0, 2, 3, 5, 7, 11]):
                        self.check((size, signs, number, noes))

    def test_any_wish(self):
        source = Source(952)
        done = 0
        for _ in range(1500):
            size = source.whole(1, 8)
            done += self.check((size, source.whole(0, size), source.chosen(SMALL_FREE), source.chosen(NOES)))
            done += self.check(fitting(source, size))
        self.assertTrue(done > 1000)

    def test_what_rows_have_can_be(self):
        """No row is there of which the rules say that it can't be."""
        source = Source(953)
        for size in range(1, 9):
            for row in small_rows(source, 80, size):
                self.assertTrue(self.check((size, signs_of(row), number_of(row), noes_of(row))), row)


class NothingChangedOrKept(unittest.TestCase):
    def test_all(self):
        for wish in ((1, 1, 6, []), (2, 2, 1, [2, 3]), (3, 0, -1, [0, 2]), (6, 3, -5, [0, 3]), (8, 8, 1, []),
                     (8, 0, 2, [3])):
            check_nothing_changed_or_kept(self, built, [wish])
            check_nothing_changed_or_kept(self, can_be, [wish])


if __name__ == "__main__":
    unittest.main()
