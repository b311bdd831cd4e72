"""Promise 3, over the whole program: what one part tells, the others find so."""

import itertools
import string
import unittest

from everyplace.alike import leading, parting
from everyplace.built import built
from everyplace.clerk import Clerk
from everyplace.errors import NoStep
from everyplace.forms import form_of, led, upright
from everyplace.pairs import how_many_pairs, parted
from everyplace.papers import lets_by
from everyplace.places import all_noes
from everyplace.primes import freed
from everyplace.rows import first_without, makes_at, noes_of, number_of, signs_of, zero_at, zero_by
from everyplace.steps import all_stepped, stepped
from everyplace.texts import read_form, show_form
from everyplace.zeros import values_for, zero_of
from samples import Source
from smalls import PLACES, SMALL_FREE, numbers_of, small_rows

LETTERS = string.ascii_lowercase


def rows_of_each_length(seed, count, longest, square=1):
    source = Source(seed)
    return [row for n in range(1, longest + 1) for numbers in (SMALL_FREE, numbers_of((2, 3)))
            for row in small_rows(source, count, n, numbers, square)]


def upright_form(row):
    return form_of([(k, 1) for k in row])


def text_of(row):
    return show_form(LETTERS[:len(row)], upright_form(row))


def alike_rows(seed, count):
    """Pairs of alike rows, the second led from the first by steps."""
    source = Source(seed)
    found = []
    while len(found) < count:
        row = [source.chosen(SMALL_FREE[:20]) for _ in range(source.whole(2, 8))]
        other = row
        for _ in range(6):
            i, j = source.whole(0, len(row) - 1), source.whole(0, len(row) - 1)
            try:
                other = stepped(other, (i, j, (source.whole(-3, 3), 1), (source.whole(-3, 3), 1)))
            except NoStep:
                pass
        if other != row:
            found.append((row, other))
    return found


class Zeros(unittest.TestCase):
    def test_a_zero_just_where_there_is_one_at_every_place(self):
        for row in rows_of_each_length(991, 25, 8, 4):
            zero = zero_of(row)
            at_each = all(zero_at(row, p) for p in PLACES + (17, 19, 23, 29, 31, 37))
            if len(row) == 2:
                at_each = zero is not None or all(zero_at(row, p) for p in PLACES + (first_without(row),))
            self.assertEqual(zero is not None, at_each, row)
            self.assertEqual(zero is not None, first_without(row) is None)

    def test_what_is_told_is_let_by_and_nothing_else(self):
        for row in rows_of_each_length(992, 25, 8, 4):
            zero, place = zero_of(row), first_without(row)
            if zero is None:
                self.assertIs(lets_by(row, ("none", place)), True, row)
                for p in PLACES[:PLACES.index(place)] if place in PLACES else PLACES:
                    self.assertIs(lets_by(row, ("none", p)), False, (row, p))
            else:
                self.assertIs(lets_by(row, ("zero", zero)), True, row)
                self.assertIs(lets_by(row, ("zero", zero[::-1])), made(row, zero[::-1]) == 0)
                for p in PLACES + (17, 101):
                    self.assertIs(lets_by(row, ("none", p)), False, (row, p))

    def test_the_place_bars_by_one_power(self):
        for row in rows_of_each_length(993, 25, 4):
            place = first_without(row)
            if place is not None and place > 0:
                self.assertIsNone(zero_by(row, place, 4 if place == 2 else 2), row)

    def test_no_at_an_even_number_of_places(self):
        for a, b in itertools.product(SMALL_FREE[:40], repeat=2):
            self.assertEqual(len(all_noes(a, b)) % 2, 0)
        for row in rows_of_each_length(994, 10, 8):
            self.assertEqual(len(noes_of(row)) % 2, 0)


def made(row, x):
    return sum(a * s * s for a, s in zip(row, x))


class NumbersMade(unittest.TestCase):
    def test_made_just_where_it_is_at_every_place(self):
        source = Source(995)
        for row in rows_of_each_length(996, 15, 7):
            c = source.chosen(SMALL_FREE)
            values = values_for(row, c)
            if values is not None:
                self.assertIs(lets_by(row, ("makes", c, values)), True, (row, c))
                self.assertTrue(all(makes_at(row, c, p) for p in PLACES))
            elif len(row) > 1:
                self.assertFalse(all(makes_at(row, c, p) for p in PLACES), (row, c))
            else:
                self.assertNotEqual(row, [c])

    def test_alike_rows_make_the_same_numbers(self):
        for row, other in alike_rows(997, 40):
            self.assertIsNone(parting(row, other))
            for c in (1, -1, 2, -3, 5, 6, 7, -10, 15, 30, 17, -101):
                for p in PLACES + (17, 101):
                    self.assertEqual(makes_at(row, c, p), makes_at(other, c, p))
            if len(row) < 8 and all(k in SMALL_FREE for k in other):
                for c in (1, -1, 2, -3, 5, 6, 7, -10, 15, 30):
                    self.assertEqual(values_for(row, c) is None, values_for(other, c) is None)

    def test_so_say_clerks(self):
        for row, other in alike_rows(998, 30):
            if not all(k in SMALL_FREE for k in other):
                continue
            one, two = Clerk(), Clerk()
            one.say("form " + text_of(row))
            two.say("form " + text_of(other))
            self.assertEqual(one.say("alike " + text_of(other)), "alike")
            for said in ("signs", "number", "noes", "pairs"):
                self.assertEqual(one.say(said), two.say(said))
            for said in ("zero", "makes 1", "makes -6", "makes 35"):
                if one.say(said).startswith("none"):
                    self.assertEqual(one.say(said), two.say(said))
                else:
                    self.assertEqual(one.say(said).split(" ")[0], two.say(said).split(" ")[0])


class Alike(unittest.TestCase):
    def test_by_a_change_just_where_all_four_agree(self):
        source = Source(999)
        for length in (1, 2, 3):
            for one, other in zip(small_rows(source, 120, length, SMALL_FREE[:9]),
                                  small_rows(source, 120, length, SMALL_FREE[:9])):
                agree = (signs_of(one), number_of(one), noes_of(one)) == (signs_of(other), number_of(other),
                                                                          noes_of(other))
                answer = leading(one, other)
                self.assertEqual(answer is not None, agree, (one, other))
                self.assertEqual(parting(one, other) is None, agree)
                if agree:
                    self.assertIs(lets_by(one, ("change", other, answer[2])), True)
                    self.assertIs(lets_by(one, ("steps", all_stepped(one, answer[0])[0], answer[0])), True)

    def test_pairs_and_a_rest(self):
        for row in rows_of_each_length(1001, 30, 4):
            steps, often = parted(row)
            after, table = all_stepped(row, steps)
            self.assertIs(lets_by(row, ("pairs", often, after, table)), True)
            self.assertEqual(often, how_many_pairs(row))
            if len(row) > 2 * often:
                self.assertIs(lets_by(after[2 * often:], ("none", first_without(after[2 * often:]))), True)
            self.assertEqual(often > 0, zero_of(row) is not None)

    def test_built_rows_are_alike_to_those_that_are_there(self):
        for row in rows_of_each_length(1002, 15, 8):
            other = built((len(row), signs_of(row), number_of(row), noes_of(row)))
            self.assertIsNone(parting(row, other), row)


class Forms(unittest.TestCase):
    def test_tables_and_lines_are_led_to_rows(self):
        source = Source(1003)
        for n in range(1, 9):
            for _ in range(8):
                form = source.form(n, 6)
                numbers, change = upright(form)
                self.assertEqual(led(form, change), form_of(numbers))
                text = show_form(LETTERS[:n], form)
                if all(c in text for c in LETTERS[:n]):
                    self.assertEqual(read_form(text), (LETTERS[:n], form))

    def test_a_clerk_says_of_lines_what_the_functions_say_of_rows(self):
        source = Source(1004)
        asked = 0
        for row in rows_of_each_length(1005, 8, 8):
            clerk = Clerk()
            free = [freed((k, 1))[0] for k in row]
            self.assertEqual(clerk.say("form " + text_of(row)), " ".join(map(str, free)))
            zero = clerk.say("zero").split(" ")
            if zero[0] == "zero":
                asked += 1
                self.assertIs(lets_by(row, ("zero", [int(x) for x in zero[1:]])), True)
            else:
                self.assertIs(lets_by(row, ("none", int(zero[1]))), True)
            c = source.chosen(SMALL_FREE)
            told = clerk.say(f"makes {c}").split(" ")
            if told[0] == "makes":
                values = [tuple(map(int, (word + "/1").split("/")[:2])) for word in told[1:]]
                self.assertIs(lets_by(row, ("makes", c, values)), True)
            else:
                self.assertFalse(makes_at(row, c, int(told[1])))
        self.assertTrue(asked > 30)


if __name__ == "__main__":
    unittest.main()
