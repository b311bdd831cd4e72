"""Promise 25: papers, and the checker that lets them by or not."""

import copy
import itertools
import unittest
from fractions import Fraction

from everyplace.alike import leading, parting
from everyplace.errors import NoRow
from everyplace.pairs import parted
from everyplace.papers import lets_by
from everyplace.rows import first_without
from everyplace.steps import all_stepped
from everyplace.tables import plain_table
from everyplace.zeros import values_for, zero_of
from kept import check_nothing_changed_or_kept
from norows import JUST_ROWS, NO_ROWS
from samples import Source, product_by_sums, told
from search import ABOVE_15, BELOW_15, BELOW_30, PRIMES, free_by_trying, has_zero_by
from smalls import GREAT, SMALL_FREE, numbers_of, small_rows, with_great_square

ONE, NOUGHT = (1, 1), (0, 1)
# What stands nowhere in a right paper of row [1, -1], whatever its kind and place.
STRANGE = (None, True, False, "", "zero", "1", [], (), [None], [True, True], [[]], ([],), [()], ["1", "1"], [1],
           [1, 1, 1],
           (1, 1), [(1, 1)], [(1, 1), (1, 1), (1, 1)], [[1, 0], [0, 1]], [[(1, 1), (0, 1)]], [[(1, 1)], [(0, 1)]],
           [[(1, 1), (0, 1)], ((0, 1), (1, 1))], [None, None], [[None, None], [None, None]])


class Case(unittest.TestCase):
    def yes(self, row, paper):
        self.assertIs(lets_by(row, paper), True, (row, paper))

    def no(self, row, paper):
        self.assertIs(lets_by(row, paper), False, (row, paper))

    def spoiled(self, row, paper):
        """A right paper with another thing at any one place isn't let by."""
        self.yes(row, paper)
        for place in range(len(paper)):
            for thing in STRANGE:
                other = paper[:place] + (thing,) + paper[place + 1:]
                if type(thing) is not type(paper[place]) or thing != paper[place]:
                    self.no(row, other)
        for k in range(1, len(paper)):
            self.no(row, paper[:k])
        for thing in STRANGE + (0, 1, 2):
            self.no(row, paper + (thing,))


class Zero(Case):
    def test_right_and_wrong(self):
        self.yes([1, -1], ("zero", [1, 1]))
        self.yes([1, -1], ("zero", [-1, 1]))
        self.yes([1, -1], ("zero", [5, 5]))
        self.yes([1, 1, -2], ("zero", [2, -2, 2]))
        self.yes([3, -3, 1], ("zero", [10 ** 200, 10 ** 200, 0]))
        self.yes([BELOW_30, -BELOW_30], ("zero", [1, -1]))
        for zero in ([0, 0], [1, 0], [1, 2], [0, 1], [1, -2], [10 ** 200, 10 ** 200 + 1]):
            self.no([1, -1], ("zero", zero))
        self.no([1, 1], ("zero", [0, 0]))
        self.no([1], ("zero", [0]))

    def test_length(self):
        for zero in ([], [1], [1, 1, 0], [1, 1, 1], [1, 1] * 4):
            self.no([1, -1], ("zero", zero))

    def test_kinds(self):
        self.spoiled([1, -1], ("zero", [1, 1]))
        for zero in ((1, 1), [1, True], [True, 1], [(1, 1), (1, 1)], [1, (1, 1)], [[1], [1]], [1, "1"], [None, 1], "11",
                     [1, [1]], 0, 1, [[1, 1]], {}):
            self.no([1, -1], ("zero", zero))
        self.no([1, -1, 5], ("zero", [1, 1, False]))

    def test_told_ones(self):
        source = Source(961)
        for length in range(2, 9):
            for row in small_rows(source, 20, length, square=9):
                zero = zero_of(row)
                if zero is not None:
                    self.yes(row, ("zero", zero))
                    place = source.whole(0, length - 1)
                    self.no(row, ("zero", zero[:place] + [zero[place] + 10 ** 9] + zero[place + 1:]))


class Makes(Case):
    def test_right_and_wrong(self):
        self.yes([1], ("makes", 4, [(2, 1)]))
        self.yes([1], ("makes", 4, [(-2, 1)]))
        self.yes([4], ("makes", 1, [(1, 2)]))
        self.yes([1, 1], ("makes", 1, [(3, 5), (-4, 5)]))
        self.yes([1, -1], ("makes", 0, [ONE, ONE]))
        self.yes([1, 1], ("makes", 10 ** 80 + 1, [(10 ** 40, 1), ONE]))
        self.yes([17, 1], ("makes", 17 * 9 + 1, [(3, 1), ONE]))
        for c, x in ((5, [(2, 1)]), (-4, [(2, 1)]), (2, [(2, 1)]), (1, [(1, 2)]), (0, [(1, 2)])):
            self.no([1], ("makes", c, x))

    def test_length(self):
        for x in ([], [ONE], [ONE, ONE, NOUGHT], [ONE, ONE, ONE]):
            self.no([1, 1], ("makes", 2, x))
        self.yes([1, 1], ("makes", 2, [ONE, ONE]))

    def test_kinds(self):
        self.spoiled([1, 1], ("makes", 2, [ONE, ONE]))
        self.spoiled([1], ("makes", 1, [ONE]))
        for x in ([1], [(2, 2)], [(1, 1, 1)], [(1,)], [(-1, -1)], [(True, 1)], [(1, True)], [[1, 1]], ((1, 1),), (1, 1),
                  1,
                  [None], ["1"], [("1", "1")], [(None, 1)], [((1, 1), 1)], [(-2, 2)]):
            self.no([1], ("makes", 1, x))
        for x in ([(0, 0)], [(1, 0)], [(0, 2)], [(0, -1)], [0]):
            self.no([1], ("makes", 0, x))
        for c in (True, (4, 1), [4], "4", None, (2, 1)):
            self.no([1], ("makes", c, [(2, 1)]))
        self.no([1], ("makes", True, [ONE]))
        self.no([1], ("makes", False, [NOUGHT]))

    def test_told_ones(self):
        source = Source(962)
        for length in range(1, 8):
            for row in small_rows(source, 20, length, square=9):
                c = source.chosen(SMALL_FREE)
                values = values_for(row, c)
                if values is not None:
                    self.yes(row, ("makes", c, values))
                    self.no(row, ("makes", c + 1, values))
                    self.no(row, ("makes", -c, values))


def barred_by_search(row, p):
    free = [free_by_trying(k) for k in row]
    if p == 0:
        return min(row) > 0 or max(row) < 0
    return not has_zero_by(free, p, 4 if p == 2 else 2)


class Barred(Case):
    def check(self, row, p):
        self.assertIs(lets_by(row, ("none", p)), barred_by_search(row, p), (row, p))

    def test_at_nought(self):
        for row in ([1], [-1], [1, 2, 3], [-BELOW_30] * 8, [1, -1], [1, 1, 1, -1], [-1] * 7 + [1], [GREAT - 1]):
            self.check(row, 0)

    def test_small_primes_by_search(self):
        source = Source(963)
        seen = {}
        for p in (2, 3, 5, 7, 11, 13, 17, 31):
            numbers = numbers_of((2, 3))[:6] + [p, -p, 5, -7, 13]
            for length in range(1, 6):
                for row in small_rows(source, 40, length, numbers, square=3):
                    self.check(row, p)
                    seen[p, barred_by_search(row, p)] = True
        self.assertEqual(len(seen), 16)

    def test_squares_in_the_numbers(self):
        for row in ([4], [4, 1], [9, 1], [9, 1, 1], [1, 1, 12], [4, 4, 4], [1, 1, 9], [18, 1, 1], [27, 3, 1],
                    [16, 16, 16, 7],
                    [1, 4, 9, 25], [8, 2, 2], [1, 1, 1, 28], [1, 1, 1, 4 * 7 * 9], [25, 2 * 25], [3 * 49, 1, 4]):
            for p in (0, 2, 3, 5, 7):
                self.check(row, p)
        self.yes([4], ("none", 2))
        self.yes([1, 1, 9], ("none", 0))
        self.yes([9, 9, -27], ("none", 3))
        self.yes([4, 4, 4], ("none", 2))
        self.yes([with_great_square(1), with_great_square(1), with_great_square(-3)], ("none", 3))
        self.no([1, 1, 9], ("none", 3))

    def test_great_primes(self):
        for p in [q for q in PRIMES if 32000 < q < 2 ** 15][::10] + [181, 547, 1009, BELOW_15]:
            no = next(k for k in PRIMES if pow(k, (p - 1) // 2, p) == p - 1)
            yes = next(k for k in PRIMES if pow(k, (p - 1) // 2, p) == 1)
            self.yes([1], ("none", p))
            self.yes([p], ("none", p))
            self.yes([1, p], ("none", p))
            self.yes([1, -no], ("none", p))
            self.no([1, -yes], ("none", p))
            self.yes([1, -no, p], ("none", p))
            self.yes([p, -no * p, 1], ("none", p))
            self.no([1, -yes, p], ("none", p))
            self.yes([1, -no, p, -no * p], ("none", p))
            self.no([1, -no, p, -yes * p], ("none", p))
            self.no([1, 2, 3], ("none", p))
            self.no([p, 2 * p, 3 * p], ("none", p))
            self.no([1, -no, p, -no * p, 1], ("none", p))
            self.no([1] * 8, ("none", p))

    def test_primes_from_two_to_the_fifteen_on(self):
        for p in (ABOVE_15, 1000003, BELOW_30, 10 ** 300 + 1):
            self.no([1], ("none", p))
        self.no([ABOVE_15, 1], ("none", ABOVE_15))
        self.yes([BELOW_15, 1], ("none", BELOW_15))
        self.no([1], ("none", 32768))

    def test_no_primes(self):
        for p in (1, -1, 4, 6, 8, 9, 15, 16, 25, 49, 121, 32767, 32761, 30030, -2, -3, -7, 10 ** 200, -10 ** 200):
            self.no([1], ("none", p))
            self.no([1, 1], ("none", p))
            self.no([3, 5], ("none", p))

    def test_kinds(self):
        self.spoiled([1, 1], ("none", 0))
        self.spoiled([1, 1], ("none", 2))
        for p in (False, True, None, "0", "2", (2,), [2], (2, 1), [], (0, 1)):
            self.no([1, 1], ("none", p))
        self.no([1, 1, -1], ("none", False))

    def test_told_ones(self):
        source = Source(964)
        for length in range(1, 9):
            for row in small_rows(source, 30, length, square=5):
                p = first_without(row)
                for q in (0, 2, 3, 5, 7, 11, 13):
                    if p is None:
                        self.no(row, ("none", q))
                    elif q < p:
                        self.no(row, ("none", q))
                if p is not None:
                    self.yes(row, ("none", p))


class Change(Case):
    def test_right_and_wrong(self):
        plain = plain_table(2)
        self.yes([1, 1], ("change", [1, 1], plain))
        self.yes([1, 1], ("change", [2, 2], [[ONE, (-1, 1)], [ONE, ONE]]))
        self.yes([2, 3], ("change", [3, 2], [[NOUGHT, ONE], [ONE, NOUGHT]]))
        self.yes([1], ("change", [4], [[(2, 1)]]))
        self.yes([4], ("change", [1], [[(-1, 2)]]))
        self.yes([1, -1], ("change", [5, -5], [[(3, 1), (2, 1)], [(2, 1), (3, 1)]]))
        self.no([1, 1], ("change", [1, 2], plain))
        self.no([1, 1], ("change", [2, 2], plain))
        self.no([1, 1], ("change", [2, 2], [[ONE, ONE], [ONE, ONE]]))
        self.no([1, 1], ("change", [2, 2], [[ONE, ONE], [(-1, 1), NOUGHT]]))
        self.no([2, 3], ("change", [2, 3], [[NOUGHT, ONE], [ONE, NOUGHT]]))

    def test_without_a_back(self):
        self.no([1, -1], ("change", [1, -1], [[NOUGHT, NOUGHT], [NOUGHT, NOUGHT]]))
        self.no([1, 1], ("change", [1, 1], [[ONE, NOUGHT], [NOUGHT, NOUGHT]]))
        self.no([1], ("change", [0], [[NOUGHT]]))

    def test_sizes(self):
        self.no([1, 1], ("change", [1, 1, 1], plain_table(2)))
        self.no([1, 1], ("change", [1], plain_table(2)))
        self.no([1, 1], ("change", [1, 1], plain_table(1)))
        self.no([1, 1], ("change", [1, 1], plain_table(3)))
        self.no([1, 1], ("change", [1], plain_table(1)))
        self.no([1, 1], ("change", [1, 1, 1], plain_table(3)))
        self.no([1, 1], ("change", [1, 1], [[ONE, NOUGHT]]))
        self.no([1, 1], ("change", [1, 1], [[ONE], [NOUGHT]]))
        self.no([1, 1], ("change", [1, 1], [[ONE, NOUGHT], [NOUGHT, ONE, NOUGHT]]))
        self.no([1, 1], ("change", [1, 1], []))

    def test_other_is_no_row(self):
        for other in NO_ROWS:
            if len(other) <= 8 and len(other) > 0:
                self.no([1] * len(other), ("change", other, plain_table(len(other))))
            self.no([1], ("change", other, plain_table(1)))
        # All would be well, but the number is too great, or a truth.
        self.no([2 ** 28], ("change", [GREAT], [[(2, 1)]]))
        self.yes([2 ** 26], ("change", [2 ** 28], [[(2, 1)]]))
        self.no([1], ("change", [True], [[ONE]]))
        self.no([1], ("change", (1,), [[ONE]]))
        self.no([1, 1], ("change", (1, 1), plain_table(2)))

    def test_kinds(self):
        self.spoiled([1, -1], ("change", [1, -1], plain_table(2)))
        for T in ([[1]], [[(2, 2)]], [[(True, 1)]], [(ONE,)], ([ONE],), [ONE], ONE, [[[1, 1]]], [[None]], [["1"]], "",
                  1,
                  [[(-1, -1)]], [[(1, 1, 1)]], [[ONE], [ONE]], [[ONE, ONE]]):
            self.no([1], ("change", [1], T))

    def test_told_ones(self):
        source = Source(965)
        for length in (1, 2, 3):
            for one, other in zip(small_rows(source, 150, length, SMALL_FREE[:9]),
                                  small_rows(source, 150, length, SMALL_FREE[:9])):
                answer = leading(one, other)
                self.assertEqual(answer is None, parting(one, other) is not None)
                if answer is None:
                    continue
                after = all_stepped(one, answer[0])[0]
                self.yes(one, ("change", other, answer[2]))
                self.yes(one, ("steps", after, answer[0]))
                wrong = copy.deepcopy(answer[2])
                wrong[0][length - 1] = told(Fraction(*wrong[0][length - 1]) + 7)
                self.no(one, ("change", other, wrong))
                self.no(one, ("change", [other[0] * 4] + other[1:], answer[2]))


class Steps(Case):
    def test_right_and_wrong(self):
        step = (0, 1, ONE, ONE)
        self.yes([1, 1], ("steps", [2, 2], [step]))
        self.yes([1, 1], ("steps", [1, 1], []))
        self.yes([2, 3], ("steps", [3, 2], [(0, 1, NOUGHT, ONE)]))
        self.yes([BELOW_30, 536870909], ("steps", [536870909, BELOW_30], [(0, 1, NOUGHT, ONE)]))
        self.yes([1, 1, 1], ("steps", [3, 2, 6], [step, (0, 2, ONE, ONE)]))
        self.no([1, 1], ("steps", [1, 1], [step]))
        self.no([1, 1], ("steps", [2, 2], []))
        self.no([1, 1, 1], ("steps", [3, 2, 6], [(0, 2, ONE, ONE), step]))
        self.no([2, 3], ("steps", [2, 3], [(0, 1, NOUGHT, ONE)]))
        self.no([1, 1], ("steps", [2, 2, 1], [step]))
        self.no([1, 1], ("steps", [2], [step]))

    def test_no_steps(self):
        for step in ((1, 0, ONE, ONE), (0, 0, ONE, ONE), (0, 2, ONE, ONE), (-1, 1, ONE, ONE), (0, 1, NOUGHT, NOUGHT),
                     (0, 1, (1, 2), NOUGHT), (0, 1, (2, 1), NOUGHT), (0, 10 ** 50, ONE, ONE),
                     (0, 1, (10 ** 9, 1), ONE)):
            for other in ([1, 1], [2, 2], [4, 1], [5, 5]):
                self.no([1, 1], ("steps", other, [step]))
                self.no([1, 1], ("steps", other, [(0, 1, ONE, ONE), step]))

    def test_other_is_no_row(self):
        for other in NO_ROWS:
            self.no([1, 1], ("steps", other, []))
        self.no([1], ("steps", [True], []))
        self.no([1, 1], ("steps", (1, 1), []))
        self.no([1, 1], ("steps", [1, True], [(0, 1, ONE, NOUGHT)]))

    def test_kinds(self):
        self.spoiled([1, 1], ("steps", [2, 2], [(0, 1, ONE, ONE)]))
        self.spoiled([1, 1], ("steps", [1, 1], []))
        for step in ([0, 1, ONE, ONE], (0, 1, ONE), (0, 1, ONE, ONE, ONE), (), (0, 1, 1, 1), (False, True, ONE, ONE),
                     (0, True, ONE, ONE), (False, 1, ONE, ONE), (0, 1, (2, 2), ONE), (0, 1, ONE, (3, 3)),
                     (0, 1, [1, 1], ONE),
                     (0, 1, ONE, None), (None, 1, ONE, ONE), ("0", "1", ONE, ONE), (0, 1, (True, 1), ONE), None, 0,
                     "step",
                     (0, 1, (-1, -1), ONE), (0, 1, (1, 0), ONE), ((0, 1), (0, 1), ONE, ONE), (0, 1, ONE, (1, 1, 1))):
            self.no([1, 1], ("steps", [2, 2], [step]))
            self.no([1, 1], ("steps", [1, 1], [step]))
        self.no([1, 1], ("steps", [2, 2], ((0, 1, ONE, ONE),)))
        self.no([1, 1], ("steps", [2, 2], (0, 1, ONE, ONE)))


class Pairs(Case):
    def test_right_and_wrong(self):
        plain = plain_table(4)
        self.yes([1, -1], ("pairs", 1, [1, -1], plain_table(2)))
        self.yes([1, -1], ("pairs", 0, [1, -1], plain_table(2)))
        self.yes([1, -1, 2, -2], ("pairs", 2, [1, -1, 2, -2], plain))
        self.yes([1, -1, 2, -2], ("pairs", 1, [1, -1, 2, -2], plain))
        self.yes([1, -1, 2, 2], ("pairs", 1, [1, -1, 2, 2], plain))
        self.yes([1, -1, 2], ("pairs", 1, [1, -1, 2], plain_table(3)))
        self.yes([1, -1] * 4, ("pairs", 4, [1, -1] * 4, plain_table(8)))
        self.yes([1], ("pairs", 0, [1], plain_table(1)))
        self.no([1, -1, 2, 2], ("pairs", 2, [1, -1, 2, 2], plain))
        self.no([2, 2, 1, -1], ("pairs", 1, [2, 2, 1, -1], plain))
        self.no([1, 2, -1, -2], ("pairs", 2, [1, 2, -1, -2], plain))
        self.no([1, -1, 2, -2], ("pairs", 3, [1, -1, 2, -2], plain))
        self.no([1, -1, 2], ("pairs", 2, [1, -1, 2], plain_table(3)))
        self.no([1, 1], ("pairs", 1, [1, 1], plain_table(2)))
        self.no([1], ("pairs", 1, [1], plain_table(1)))
        for k in (-1, -2, 10 ** 200, -10 ** 200, 5):
            self.no([1, -1, 2, -2], ("pairs", k, [1, -1, 2, -2], plain))

    def test_the_table_has_to_lead(self):
        self.no([1, -1], ("pairs", 1, [2, -2], plain_table(2)))
        self.no([1, 1], ("pairs", 1, [1, -1], plain_table(2)))
        self.no([1, -1], ("pairs", 1, [1, -1], plain_table(3)))
        self.no([1, -1], ("pairs", 0, [2, -2], plain_table(2)))
        self.no([1, -1], ("pairs", 1, [1, -1, 1, -1], plain_table(4)))

    def test_other_is_no_row(self):
        for other in NO_ROWS:
            for k in (0, 1):
                self.no([1, -1], ("pairs", k, other, plain_table(2)))
                if 0 < len(other) < 9:
                    self.no([1] * len(other), ("pairs", k, other, plain_table(len(other))))

    def test_kinds(self):
        self.spoiled([1, -1], ("pairs", 1, [1, -1], plain_table(2)))
        for k in (True, False, None, "1", (1, 1), [1], [], ()):
            self.no([1, -1], ("pairs", k, [1, -1], plain_table(2)))

    def test_told_ones(self):
        source = Source(966)
        seen = [0, 0, 0]
        squares = [[a, b, c, free_by_trying(a * b * c)] for a, b, c in small_rows(source, 40, 3, numbers_of((2, 3)))]
        for length in (1, 2, 3, 4):
            rows = small_rows(source, 60, length, numbers_of((2, 3))) + small_rows(source, 20, length)
            for row in rows + (squares if length == 4 else []):
                steps, often = parted(row)
                after, table = all_stepped(row, steps)
                self.yes(row, ("pairs", often, after, table))
                self.yes(row, ("change", after, table))
                self.yes(row, ("steps", after, steps))
                self.no(row, ("pairs", often + 1, after, table))
                seen[often] += 1
                twice = product_by_sums(table, table)
                if twice != table and twice != plain_table(length):
                    self.assertIs(lets_by(row, ("pairs", often, after, twice)), False)
        self.assertTrue(min(seen) > 3, seen)


class Others(Case):
    def test_other_words(self):
        for word in ("", "Zero", "zero ", "none.", "made", "make", "pair", "step", "changes", "alike", "0"):
            for things in ((), ([1, 1],), (0,), ([1, -1], plain_table(2)), (2, [ONE, ONE]), ([1, -1], []),
                           (1, [1, -1], plain_table(2)), (1, 2, 3, 4)):
                self.no([1, -1], (word,) + things)

    def test_no_tuples(self):
        for paper in (["zero", [1, 1]], ["none", 2], None, True, 0, 2, "zero", "none", [], (),
                      ["pairs", 0, [1, -1], plain_table(2)]):
            self.no([1, -1], paper)

    def test_words_with_the_things_of_others(self):
        right = {"zero": ([1, 1],), "makes": (0, [ONE, ONE]), "none": (2,), "change": ([1, -1], plain_table(2)),
                 "steps": ([1, -1], []), "pairs": (1, [1, -1], plain_table(2))}
        for word, other in itertools.product(right, repeat=2):
            if word != other:
                self.no([1, -1], (word,) + right[other])

    def test_words_alone(self):
        for word in ("zero", "makes", "none", "change", "steps", "pairs"):
            self.no([1, -1], (word,))
            for things in ((None,) * 6, (0,) * 6):
                for count in range(1, 7):
                    if (word, things[0], count) != ("none", 0, 1):
                        self.no([1, -1], (word,) + things[:count])

    def test_no_row_ahead_of_all_else(self):
        for row in NO_ROWS:
            for paper in (("zero", [1, 1]), ("none", 0), ("none", 4), ("makes", 1, [ONE]), ("change", row, None),
                          ("what",),
                          ("steps", row, []), ("pairs", 0, row, plain_table(1)), ("zero", None),
                          ("change", [1], [[ONE]])):
                with self.assertRaises(NoRow, msg=(row, paper)):
                    lets_by(row, paper)
        for row in JUST_ROWS:
            self.yes(row, ("steps", list(row), []))
            self.yes(row, ("change", list(row), plain_table(len(row))))

    def test_nothing_changed_or_kept(self):
        for paper in (("zero", [1, 1]), ("none", 0), ("none", 3), ("makes", 0, [ONE, ONE]),
                      ("change", [1, -1], plain_table(2)),
                      ("steps", [1, -1], []), ("steps", [3, -3], [(0, 1, (2, 1), ONE)]),
                      ("pairs", 1, [1, -1], plain_table(2)), ("zero", [None, [1]]), ("steps", [1, 2], [[1]])):
            check_nothing_changed_or_kept(self, lets_by, [[1, -1], paper])


if __name__ == "__main__":
    unittest.main()
