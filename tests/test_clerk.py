"""Promise 27: a clerk."""

import itertools
import math
import string
import unittest

from everyplace.alike import parting
from everyplace.clerk import Clerk
from everyplace.errors import NoText, TooGreat
from everyplace.forms import upright
from everyplace.pairs import how_many_pairs
from everyplace.primes import freed
from everyplace.rows import first_without, makes_at, noes_of, number_of
from everyplace.texts import read_form, show_form
from everyplace.wished import is_small
from samples import Source, product_by_sums, table_of
from search import BELOW_15, PRIMES
from smalls import PLACES, SMALL_FREE, small_rows
from test_texts import NOT_WRITTEN
from written import fractions_in, letters_in, value_of_text, whole_numbers

LETTERS = string.ascii_lowercase
WORDS = ("row", "signs", "number", "noes", "pairs", "zero")
# Two primes over one another: not tame; and tame, but too great when freed.
NOT_TAME = "999999937/999999929"
GREAT_WHEN_FREED = "510510/14535931"


def written(row):
    """Squares with these numbers ahead."""
    return show_form(LETTERS[:len(row)], unmixed(row))


def clerk_with(text):
    clerk = Clerk()
    clerk.say("form " + text)
    return clerk


def unmixed(row):
    return table_of([[k if i == j else 0 for j in range(len(row))] for i, k in enumerate(row)])


def led_by(table, form):
    return product_by_sums([list(column) for column in zip(*table)], product_by_sums(form, table))


def row_by_functions(text):
    numbers = upright(read_form(text)[1])[0]
    return [freed(u)[0] if u[0] != 0 else 0 for u in numbers]


def mixed(source, row):
    """A form of the numbers of the row, some of them noughts, led by some change, so far as a clerk takes it."""
    n = len(row)
    while True:
        above = [[(source.whole(-2, 2) if i < j else int(i == j), 1) for j in range(n)] for i in range(n)]
        below = [[(source.whole(-1, 1) if i > j else int(i == j), 1) for j in range(n)] for i in range(n)]
        led = led_by(above, unmixed(row))
        text = show_form(LETTERS[:n], led_by(below, led) if n < 5 else led)
        for c in [c for c in LETTERS[:n] if c not in text]:
            text = f"0*{c}*{c}" if text == "0" else text + f" + 0*{c}*{c}"
        try:
            Clerk().say("form " + text)
        except TooGreat:
            continue
        return text


class Case(unittest.TestCase):
    def check_zero(self, text, answer):
        self.assertTrue(answer.startswith("zero "), (text, answer))
        zero = whole_numbers(answer[5:])
        self.assertEqual(len(zero), len(letters_in(text)))
        self.assertEqual(math.gcd(*zero), 1, (text, answer))
        self.assertEqual(value_of_text(text, zero), 0, (text, answer))

    def check_makes(self, text, c, answer):
        self.assertTrue(answer.startswith("makes "), (text, c, answer))
        self.assertEqual(value_of_text(text, fractions_in(answer[6:])), c, (text, answer))

    def check_all(self, text, asked=(1, -1, 6, -30, 45)):
        """Each answer agrees with the functions."""
        clerk = clerk_with(text)
        row = row_by_functions(text)
        numbers = [k for k in row if k != 0]
        self.assertEqual(clerk.say("row"), " ".join(map(str, row)))
        self.assertEqual(clerk.say("signs"), str(sum(k > 0 for k in row)))
        self.assertEqual(clerk.say("number"), str(number_of(numbers)) if numbers else "1")
        noes = noes_of(numbers) if numbers else []
        self.assertEqual(clerk.say("noes"), " ".join(map(str, noes)) if noes else "-")
        self.assertEqual(clerk.say("pairs"), str(how_many_pairs(numbers)) if numbers else "0")
        place = first_without(row) if 0 not in row else None
        if place is not None:
            self.assertEqual(clerk.say("zero"), f"none {place}", text)
        elif 0 in row or len(row) == 2 or all(map(is_small, row)):
            self.check_zero(text, clerk.say("zero"))
        for c in asked:
            self.check_asked(clerk, text, numbers, c)

    def check_asked(self, clerk, text, numbers, c):
        if not numbers:
            self.assertEqual(clerk.say(f"makes {c}"), "none 0")
            return
        barring = [p for p in (0,) + tuple(PRIMES[:40]) if not makes_at(numbers, c, p)]
        if barring:
            self.assertEqual(clerk.say(f"makes {c}"), f"none {barring[0]}", (text, c))
        elif all(map(is_small, numbers + [c])):
            self.check_makes(text, c, clerk.say(f"makes {c}"))
        else:
            with self.assertRaises(TooGreat, msg=(text, c)):
                clerk.say(f"makes {c}")


class AtFirst(Case):
    def test_words_ahead_of_any_form(self):
        for said, wanted in (("row", "1"), ("signs", "1"), ("number", "1"), ("noes", "-"), ("pairs", "0"),
                             ("zero", "none 0"),
                             ("makes 2", "none 2"), ("makes -1", "none 0"), ("makes 3", "none 2"),
                             ("makes 17", "none 3"),
                             ("alike x*x", "alike"), ("alike z*z", "alike"), ("alike 4*q*q", "alike"),
                             ("alike -x*x", "signs"),
                             ("alike 2*x*x", "number"), ("alike x*y", "size"), ("alike 0*x*x", "noughts")):
            self.assertEqual(Clerk().say(said), wanted, said)
        self.check_makes("x*x", 9, Clerk().say("makes 9"))
        self.check_makes("x*x", 999950884, Clerk().say("makes 999950884"))

    def test_two_clerks(self):
        one, other = Clerk(), Clerk()
        one.say("form x*y")
        self.assertEqual((one.say("row"), other.say("row")), ("1 -1", "1"))


class Forms(Case):
    def test_by_hand(self):
        for text, wanted in (("x*x", "1"), ("3*x*x - 2*y*y + 7*z*z", "3 -2 7"), ("x*y", "1 -1"),
                             ("4*x*x - 1/9*y*y", "1 -1"),
                             ("0*x*x", "0"), ("x*x - x*x + 0*y*z", "0 0 0"), ("x*x + 2*x*y + y*y", "1 0"),
                             ("-8*q*q", "-2"),
                             ("y*y + 0*x*x", "1 0"), ("1/2*x*x", "2"), ("6/4*x*x", "6"),
                             ("999999937*x*x", "999999937"), ("a*b + c*d", "1 -1 1 -1")):
            clerk = Clerk()
            self.assertEqual(clerk.say("form " + text), wanted)
            self.assertEqual(clerk.say("row"), wanted)

    def test_one_form_behind_the_other(self):
        clerk = Clerk()
        for text, wanted in (("x*y", "1 -1"), ("a*a + b*b + c*c", "1 1 1"), ("-z*z", "-1")):
            self.assertEqual(clerk.say("form " + text), wanted)
            self.assertEqual(clerk.say("row"), wanted)

    def test_too_great_changes_nothing(self):
        clerk = clerk_with("2*x*x - 3*y*y")
        before = [clerk.say(word) for word in WORDS]
        for text in (NOT_TAME + "*x*x", GREAT_WHEN_FREED + "*x*x", "x*x + " + NOT_TAME + "*y*y", "999999937/3*x*x",
                     "x*x - " + GREAT_WHEN_FREED + "*y*y", "0*x*x + " + NOT_TAME + "*y*y",
                     "7*x*x + 999999937*x*y - 2*y*y"):
            with self.assertRaises(TooGreat, msg=text):
                clerk.say("form " + text)
            self.assertEqual([clerk.say(word) for word in WORDS], before, text)

    def test_just_below_two_to_the_thirty(self):
        # 32783 and 32789 are primes that follow one another; 32749 times the first is below, times the other above.
        self.assertEqual(Clerk().say("form 32749/32783*x*x"), str(32749 * 32783))
        self.assertEqual(Clerk().say("form -32783/32749*x*x"), str(-32749 * 32783))
        for text in ("32749/32789*x*x", "-32789/32749*x*x"):
            with self.assertRaises(TooGreat):
                Clerk().say("form " + text)

    def test_squares_are_divided_out(self):
        # Of 999950884 the root is 31622.
        for text, wanted in (("999950884*x*x", "1"), ("3/999950884*x*x", "3"), ("32771/32771*x*x", "1"),
                             ("-32768/2*x*x", "-1")):
            self.assertEqual(Clerk().say("form " + text), wanted)

    def test_not_written_changes_nothing(self):
        clerk = clerk_with("2*x*x - 3*y*y")
        before = [clerk.say(word) for word in WORDS]
        for text in NOT_WRITTEN:
            for word in ("form ", "alike "):
                with self.assertRaises(NoText, msg=repr(text)):
                    clerk.say(word + text)
        self.assertEqual([clerk.say(word) for word in WORDS], before)

    def test_eight_unknowns_and_nine(self):
        self.assertEqual(Clerk().say("form " + written([1, 2, 3, 5, 6, 7, -1, 10])), "1 2 3 5 6 7 -1 10")
        with self.assertRaises(NoText):
            Clerk().say("form " + " + ".join(f"{c}*{c}" for c in "abcdefghi"))


class NotAsked(unittest.TestCase):
    def test_other_rows(self):
        clerk = clerk_with("x*y")
        for said in ("", " ", "form", "form ", "makes", "makes ", "alike", "alike ", "row ", " row", "row row", "rows",
                     "Row", "ROW",
                     "zero 1", "zero ", "signs x", "number 1", "noes -", "pairs 2", "what", "x*x", "form: x*x",
                     "form  x*x",
                     "form\tx*x", "formx*x", "form x*x ", " form x*x", "makes x", "makes 0", "makes -0", "makes +1",
                     "makes 01",
                     "makes -01", "makes --1", "makes - 1", "makes 1 ", "makes  1", "makes 1 2", "makes 1/2",
                     "makes 1.0",
                     "makes 1234567890", "makes 1000000000", "makes -1000000000", "makes 00", "alike  x*x",
                     "alike x*x ", "alike x",
                     "signs zero", "help", "~", "0", "1", "-", "makes -", "makes 1x", "none 0"):
            with self.assertRaises(NoText, msg=repr(said)):
                clerk.say(said)
        self.assertEqual(clerk.say("row"), "1 -1")

    def test_ahead_of_all_else(self):
        clerk = clerk_with("999999937*x*x - 999999937*y*y")
        with self.assertRaises(TooGreat):
            clerk.say("makes 1")
        for said in ("makes 0", "makes one", "alike " + NOT_TAME + "*x", "alike " + NOT_TAME + "*x*x +",
                     "form " + NOT_TAME + "*x*x*x"):
            with self.assertRaises(NoText):
                clerk.say(said)


class Answers(Case):
    def test_rows_of_small_numbers(self):
        source = Source(981)
        for length in range(1, 9):
            for row in small_rows(source, 12, length, SMALL_FREE[:60], square=3):
                self.check_all(written(row), (1, -1, 6, -30, 45, source.chosen(SMALL_FREE)))

    def test_mixed_forms(self):
        source = Source(982)
        for length in range(1, 9):
            for row in small_rows(source, 12, length, SMALL_FREE[:24]):
                self.check_all(mixed(source, row))

    def test_with_noughts(self):
        source = Source(983)
        for length in range(1, 9):
            for _ in range(10):
                row = [source.chosen((0, 0, 1, -1, 2, 3, -6, 35)) for _ in range(length)]
                self.check_all(mixed(source, row))
        for length in range(1, 9):
            self.check_all(" + ".join(f"0*{c}*{c}" for c in LETTERS[:length]))

    def test_noughts_alone(self):
        clerk = clerk_with("0*x*y")
        for said, wanted in (("row", "0 0"), ("signs", "0"), ("number", "1"), ("noes", "-"), ("pairs", "0"),
                             ("makes 1", "none 0"),
                             ("makes -17", "none 0"), ("makes 999999937", "none 0")):
            self.assertEqual(clerk.say(said), wanted)
        self.check_zero("0*x*y", clerk.say("zero"))

    def test_noughts_and_great_others(self):
        # There is a zero, whatever the other numbers; they make nothing that is not small.
        for text in ("999999937*x*x + 0*y*y", "999999937*x*x + 2*x*y + 1/999999937*y*y",
                     "999999937*a*a + 3*b*b + 7*c*c + 5*d*d + 0*e*e"):
            clerk = clerk_with(text)
            self.assertIn("0", clerk.say("row").split(" "))
            self.check_zero(text, clerk.say("zero"))
        clerk = clerk_with("999999937*x*x + 0*y*y")
        self.assertEqual(clerk.say("makes -1"), "none 0")
        with self.assertRaises(TooGreat):
            clerk.say("makes 999999937")
        self.check_makes("2*x*x + 0*y*y", 18, clerk_with("2*x*x + 0*y*y").say("makes 18"))

    def test_fractions_as_numbers(self):
        for text in ("1/2*x*x - 2/9*y*y", "3/4*x*x + 5/6*x*y - 1/7*y*y", "1/3*a*b + 1/5*b*c - 2/7*a*c",
                     "7/13*x*x + 13/7*y*y - 3/11*z*z",
                     "1/2*a*a + 1/3*b*b + 1/5*c*c - 1/7*d*d - 1/11*a*b"):
            self.check_all(text)
        self.check_zero("1/2*x*x - 2/9*y*y", clerk_with("1/2*x*x - 2/9*y*y").say("zero"))

    def test_number_too_great(self):
        clerk = clerk_with("999999937*x*x + 999999929*y*y + 3*z*z")
        with self.assertRaises(TooGreat):
            clerk.say("number")
        self.assertEqual(clerk.say("signs"), "3")
        self.assertEqual(clerk.say("pairs"), "0")
        self.assertEqual(clerk.say("zero"), "none 0")
        self.assertEqual(clerk.say("noes"), " ".join(map(str, noes_of([999999937, 999999929, 3]))) or "-")


class Zeros(Case):
    def test_two(self):
        for text in ("999999937*x*x - 999999937*y*y", "x*y", "1/999999937*a*a - 999999937*b*b", "x*x - 999950884*y*y"):
            self.check_zero(text, clerk_with(text).say("zero"))
        self.assertEqual(clerk_with("x*x - 999999937*y*y").say("zero"), f"none {first_without([1, -999999937])}")

    def test_three_great(self):
        """Told where promise 17 tells it, though the numbers aren't small."""
        for a, b, x, y in ((1, 17, 3, 2), (-1, 1009, 5, 1), (2, 32749, 7, 1), (1, 1000003, 10, 1), (3, -19, 7, 5)):
            row = [a, b, -(a * x * x + b * y * y)]
            text = written(row)
            self.check_zero(text, clerk_with(text).say("zero"))

    def test_three_too_great(self):
        row = [1000003, 999983, -(1000003 + 999983)]
        self.assertIsNone(first_without(row))
        for order in itertools.permutations(row):
            with self.assertRaises(TooGreat):
                clerk_with(written(order)).say("zero")

    def test_three_too_great_by_their_order(self):
        # The products of 1 and the others are not too great, but those of the others are.
        for order in itertools.permutations([1, 1000003, -1000103]):
            text = written(order)
            if order[0] == 1:
                self.check_zero(text, clerk_with(text).say("zero"))
            else:
                with self.assertRaises(TooGreat):
                    clerk_with(text).say("zero")

    def test_four_and_more_too_great(self):
        for row in ([1, 1, 1, -17], [1, 17, -17, 3], [1, 1, 1, 1, -19], [1] * 7 + [-17], [999999937, -999999937, 1, 1]):
            self.assertIsNone(first_without(row))
            with self.assertRaises(TooGreat, msg=row):
                clerk_with(written(row)).say("zero")

    def test_the_place_is_told_whatever_the_numbers(self):
        for row in ([999999937], [999999937, 999999929], [-1, -999999937, -999999929], [17, 19, 23, 29],
                    [999999937] * 8,
                    [1, 1, -999999937 + 34], [1, -2, 5 * 1009], [1, 1, -3 * 1009, -3 * 1009]):
            place = first_without(row_by_functions(written(row)))
            self.assertIsNotNone(place)
            self.assertEqual(clerk_with(written(row)).say("zero"), f"none {place}", row)
        self.assertEqual(clerk_with(written([1, 1, -3 * 1009, -3 * 1009])).say("zero"), "none 2")
        self.assertEqual(clerk_with(written([32749, 32719, 3])).say("zero"), "none 0")


class Makes(Case):
    def test_the_first_place(self):
        for text, c, wanted in (("x*x", -4, 0), ("x*x", 2, 2), ("x*x", 17, 3), ("x*x + y*y", 3, 2),
                                ("x*x + y*y", -3, 0),
                                ("x*x + y*y + z*z", 7, 2), ("x*x + y*y + z*z", -7, 0), ("x*x - 3*y*y", -1, 2),
                                ("2*x*x", 3, 2),
                                ("x*x + y*y", 21, 3), ("x*x + y*y + z*z + w*w", -1, 0), ("x*x", 1009, 11)):
            row = row_by_functions(text)
            self.assertEqual([p for p in (0,) + tuple(PRIMES[:40]) if not makes_at(row, c, p)][0], wanted, (text, c))
            self.assertEqual(clerk_with(text).say(f"makes {c}"), f"none {wanted}")

    def test_one_number_that_is_a_square_at_many_places(self):
        seen = set()
        for c in (73, 241, 1009, 2641, 8089, 18001, 53881, 87481, 117049):
            seen.add(first_without([1, -c]))
            self.assertEqual(Clerk().say(f"makes {c}"), f"none {first_without([1, -c])}")
        self.assertTrue(len(seen) > 5 and max(seen) > 20)

    def test_too_great(self):
        for text, c in (("17*x*x", 17), ("x*x - y*y", 17), ("x*x - 17*y*y", 1),
                        ("x*x + y*y", 17), ("x*x + 17*y*y", 1), ("x*x + y*y + z*z + w*w", 999999937),
                        ("17*x*x - 17*y*y", 2),
                        (written([1] * 7 + [17]), 1), (written([1] * 8), 17)):
            row = row_by_functions(text)
            self.assertTrue(all(makes_at(row, c, p) for p in PLACES + (17, 999999937)))
            with self.assertRaises(TooGreat, msg=(text, c)):
                clerk_with(text).say(f"makes {c}")
        # 17 has to go an even number of times to be in a small number.
        self.check_makes("x*x", 289, Clerk().say("makes 289"))

    def test_the_place_is_told_whatever_the_numbers(self):
        for text, c, wanted in (("17*x*x", -17, 0), ("17*x*x", 1, None), ("999999937*x*x + 999999929*y*y", -1, 0),
                                ("x*x + y*y", 19, 2),
                                ("x*x", 999999937, None), ("-x*x - 17*y*y", 999999937, 0),
                                ("x*x + y*y + z*z", 1009 * 8 - 1, 2)):
            row = row_by_functions(text)
            if wanted is None:
                wanted = first_without(row + [-c])
            self.assertEqual(clerk_with(text).say(f"makes {c}"), f"none {wanted}")

    def test_great_small_numbers(self):
        for text, c in (("x*x + y*y", 999950884), ("x*x - y*y", -999950884), ("a*a + b*b + c*c + d*d", 7 * 11950 ** 2),
                        ("2*x*x", 2 * 22360 ** 2), ("1/2*x*x - 1/3*y*y - z*z + w*w", -30030 * 182 ** 2)):
            self.check_makes(text, c, clerk_with(text).say(f"makes {c}"))

    def test_rows_of_eight(self):
        source = Source(984)
        for row in small_rows(source, 25, 8, SMALL_FREE[:50]):
            text = written(row) if source.whole(0, 1) == 1 else mixed(source, row)
            clerk = clerk_with(text)
            for c in (1, -1, 15, -30030, source.chosen(SMALL_FREE)):
                if any(k * c > 0 for k in row):
                    self.check_makes(text, c, clerk.say(f"makes {c}"))
                else:
                    self.assertEqual(clerk.say(f"makes {c}"), "none 0")
            if any(k > 0 for k in row):
                with self.assertRaises(TooGreat):
                    clerk.say("makes 17")
            else:
                self.assertEqual(clerk.say("makes 17"), "none 0")
        self.check_makes(written([1] * 8), 7, clerk_with(written([1] * 8)).say("makes 7"))
        self.assertEqual(clerk_with(written([-1] * 8)).say("makes 7"), "none 0")
        self.assertEqual(clerk_with(written([17] * 8)).say("makes -17"), "none 0")


class Alike(Case):
    def check(self, one, other, wanted):
        clerk = clerk_with(one)
        before = clerk.say("row")
        self.assertEqual(clerk.say("alike " + other), wanted, (one, other))
        self.assertEqual(clerk.say("row"), before)

    def test_each_outcome(self):
        for one, other, wanted in (
                ("x*x", "x*x", "alike"), ("x*x - y*y", "a*b", "alike"), ("x*x + y*y", "2*x*x + 2*y*y", "alike"),
                ("x*x", "x*x + y*y", "size"), ("x*x + y*y", "x*x", "size"), ("x*x", "0*x*x + 0*y*y", "size"),
                ("x*x", "0*x*x", "noughts"), ("0*x*x", "x*x", "noughts"), ("x*x + 0*y*y", "x*x + y*y", "noughts"),
                ("x*x - y*y", "x*x + 2*x*y + y*y", "noughts"), ("x*x + y*y", "x*x - y*y", "signs"),
                ("x*x", "-x*x", "signs"),
                ("x*x + y*y", "x*x + 2*y*y", "number"), ("x*x", "2*x*x", "number"),
                ("x*x + y*y", "3*x*x + 3*y*y", "place 2"),
                ("x*x - 3*y*y", "2*x*x - 6*y*y", "place 2"), ("x*x + y*y + 0*z*z", "0*x*x + y*y + z*z", "alike"),
                ("0*x*x", "0*y*y", "alike"), ("0*x*y", "x*x - x*x + 0*z*z", "alike"),
                ("x*x + 0*y*y", "0*x*x - y*y", "signs"),
                ("x*x + 0*y*y", "0*x*x + 2*y*y", "number"), ("x*x + y*y + 0*z*z", "3*x*x + 3*y*y + 0*z*z", "place 2"),
                ("x*x + y*y + 0*z*z", "x*x - y*y + w*w - w*w", "signs")):
            self.check(one, other, wanted)

    def test_a_place_beyond_two(self):
        seen = set()
        for a, b, k in itertools.product((1, 2, 3, 5, -1), (-1, -2, -7, -15, 5), (3, 5, 7, 11, 13, 17)):
            one, other = [a, b], [a * k, b * k]
            apart = parting(one, other)
            self.check(written(one), written(other), "alike" if apart is None else " ".join(map(str, apart)))
            seen.add(apart)
        self.assertTrue(("place", 3) in seen and ("place", 5) in seen and None in seen)

    def test_size_whatever_the_numbers(self):
        for other in (NOT_TAME + "*x*x + y*y", GREAT_WHEN_FREED + "*x*y"):
            self.check("x*x", other, "size")

    def test_too_great_ahead_of_noughts_and_all_else(self):
        clerk = clerk_with("0*x*x")
        for text in (NOT_TAME + "*x*x", "-" + GREAT_WHEN_FREED + "*x*x"):
            with self.assertRaises(TooGreat):
                clerk.say("alike " + text)
        clerk = clerk_with("x*x + y*y")
        for text in (NOT_TAME + "*x*x - y*y", "x*x - " + GREAT_WHEN_FREED + "*y*y", "0*x*x + " + NOT_TAME + "*y*y"):
            with self.assertRaises(TooGreat):
                clerk.say("alike " + text)
        self.assertEqual(clerk.say("row"), "1 1")

    def test_great_numbers(self):
        self.check("999999937*x*x + 999999929*y*y + 3*z*z", "3*a*a + 999999937*b*b + 999999929*c*c", "alike")
        self.check("999999937*x*x + 999999929*y*y + 3*z*z", "5*a*a + 999999937*b*b + 999999929*c*c", "number")
        self.check(f"{BELOW_15}*x*x", f"1/{BELOW_15}*y*y", "alike")

    def test_led_forms_are_alike(self):
        source = Source(985)
        for length in range(1, 9):
            for _ in range(8):
                row = [source.chosen((0, 1, -1, 2, 3, -6, 35)) for _ in range(length)]
                self.check(mixed(source, row), written_with_noughts(row), "alike")

    def test_agrees_with_parting(self):
        source = Source(986)
        for length in range(1, 9):
            for one, other in zip(small_rows(source, 25, length, SMALL_FREE[:6]),
                                  small_rows(source, 25, length, SMALL_FREE[:6])):
                apart = parting(one, other)
                self.check(written(one), written(other), "alike" if apart is None else " ".join(map(str, apart)))


def written_with_noughts(row):
    return " + ".join(f"{k}*{c}*{c}" for k, c in zip(row, LETTERS)).replace("+ -", "- ")


class NothingHangsOnWhatWasAsked(unittest.TestCase):
    def test_asked_again(self):
        clerk = clerk_with("x*x + y*y - 2*z*z")
        asked = WORDS + ("makes 7", "makes -30", "alike a*b + c*c", "alike a*a")
        first = [clerk.say(said) for said in asked]
        for said in asked[::-1] + asked:
            clerk.say(said)
        self.assertEqual([clerk.say(said) for said in asked], first)
        self.assertTrue(all(type(answer) is str for answer in first))


if __name__ == "__main__":
    unittest.main()
