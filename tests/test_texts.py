"""Promise 26: forms written as lines of text."""

import re
import string
import unittest
from fractions import Fraction

from everyplace.errors import FormError, NoText
from everyplace.forms import is_form, value
from everyplace.texts import read_form, show_form, show_whole
from kept import check_nothing_changed_or_kept
from samples import Source, is_table, known, table_of, told
from written import terms_by_pattern

NUMBER = r"(?:0|[1-9][0-9]{0,8})"
BOTTOM = r"[1-9][0-9]{0,8}"
TERM = rf"(?:{NUMBER}(?:/{BOTTOM})?\*)?[a-z]\*[a-z]"
FORM = re.compile(rf"-?{TERM}(?: [+-] {TERM})*")


def is_written(text):
    """By one pattern of signs; the number of unknowns is looked at beside."""
    return FORM.fullmatch(text) is not None and len(set(re.findall("[a-z]", text))) <= 8


NOT_WRITTEN = (
    "", " ", "0", "1", "-", "+", "x", "*", "x*", "*x", "x*x*", "*x*x", "x*x*x", "2*x", "2x*x", "2*xx", "xx", "x**x",
    "x^2",
    "x*x ", " x*x", "x*x  + y*y", "x*x +  y*y", "x*x+y*y", "x*x +y*y", "x*x+ y*y", "x*x + ", "x*x +", "+ x*x", "+x*x",
    "- x*x", "--x*x", "-+x*x", "x*x + -y*y", "x*x - -y*y", "x*x + + y*y", "x*x * y*y", "x*x y*y", "x*x , y*y",
    "x*x / y*y",
    "x * x", "2 *x*x", "2* x*x", "2*x* x", "2*x *x", "x*x\n", "\tx*x", "x*x\n+ y*y", "x*x\t+\ty*y",
    "01*x*x", "00*x*x", "007*x*x", "1234567890*x*x", "0000000000*x*x", "1000000000*x*x", "1/1234567890*x*x",
    "1/0*x*x", "0/0*x*x", "1/01*x*x", "01/1*x*x", "1/*x*x", "/2*x*x", "1//2*x*x", "1/2/3*x*x", "1/-2*x*x", "-1/-2*x*x",
    "1 /2*x*x", "1/ 2*x*x", "1.5*x*x", "1e3*x*x", "+1*x*x", "-*x*x", "x*2*x", "x*x*2", "2*3*x*x", "x/2*x", "x*x/2",
    "X*x", "x*X", "A*B", "1*1", "2*1*1", "a*1", "x1*x1", "_*_", "x*y z", "(x*x)", "x*x;", "x*x + 0", "0 + x*x",
    "x*x + 3",
    "\u00e4*x", "\u0663*x*x", "\u00b2*x*x", "\uff11*x*x", "x\u00d7x", "x*x \u2212 y*y", "x*x\u00a0+ y*y", "1_0*x*x",
    "a*b + c*d + e*f + g*h + i*i", "a*a + b*b + c*c + d*d + e*e + f*f + g*g + h*h + i*i",
    "0*a*b + c*d + e*f + g*h + 0*y*z",
)


class Read(unittest.TestCase):
    def check(self, text):
        self.assertTrue(is_written(text), text)
        answer = read_form(text)
        self.assertIs(type(answer), tuple)
        letters, form = answer
        self.assertEqual(letters, "".join(sorted(set(re.findall("[a-z]", text)))), text)
        n = len(letters)
        wanted = [[Fraction(0)] * n for _ in range(n)]
        for number, first, second in terms_by_pattern(text):
            i, j = letters.index(first), letters.index(second)
            wanted[i][j] += number / 2
            wanted[j][i] += number / 2
        self.assertEqual(form, table_of(wanted), text)
        self.assertTrue(is_table(form, n) and is_form(form))

    def test_by_hand(self):
        self.assertEqual(read_form("x*x"), ("x", [[(1, 1)]]))
        self.assertEqual(read_form("-x*x"), ("x", [[(-1, 1)]]))
        self.assertEqual(read_form("x*y"), ("xy", [[(0, 1), (1, 2)], [(1, 2), (0, 1)]]))
        self.assertEqual(read_form("y*x"), ("xy", [[(0, 1), (1, 2)], [(1, 2), (0, 1)]]))
        self.assertEqual(read_form("3*x*x - 2*y*y + 7*z*z")[1], table_of([[3, 0, 0], [0, -2, 0], [0, 0, 7]]))
        self.assertEqual(read_form("b*a - 6/4*a*a"), ("ab", [[(-3, 2), (1, 2)], [(1, 2), (0, 1)]]))
        self.assertEqual(read_form("z*z + a*a"), ("az", [[(1, 1), (0, 1)], [(0, 1), (1, 1)]]))

    def test_fractions(self):
        for text in ("2/4*x*x", "0/7*x*x", "0*x*x", "-0*x*x", "999999999*x*x", "1/999999999*x*x",
                     "999999999/999999999*x*x",
                     "-123456789/987654321*x*y", "10*x*x", "100000000/100000000*x*y", "6/3*x*y", "1*x*x", "1/1*x*x",
                     "9/1*x*y"):
            self.check(text)
        self.assertEqual(read_form("2/4*x*x")[1], [[(1, 2)]])
        self.assertEqual(read_form("0/7*x*x")[1], [[(0, 1)]])

    def test_terms_of_the_same_unknowns_come_together(self):
        for text in ("x*x + x*x", "x*y + y*x", "x*y - y*x", "x*y + 2*y*x - 1/3*x*y", "1/2*a*a + 1/3*a*a - 5/6*a*a"):
            self.check(text)
        self.assertEqual(read_form("x*y + y*x")[1], table_of([[0, 1], [1, 0]]))

    def test_unknowns_whose_terms_come_to_nought_stay(self):
        self.assertEqual(read_form("x*x - x*x"), ("x", [[(0, 1)]]))
        self.assertEqual(read_form("0*x*y"), ("xy", table_of([[0, 0], [0, 0]])))
        self.assertEqual(read_form("z*z + 0*a*b"), ("abz", table_of([[0, 0, 0], [0, 0, 0], [0, 0, 1]])))
        self.assertEqual(read_form("x*y - y*x + y*y"), ("xy", table_of([[0, 0], [0, 1]])))

    def test_eight_unknowns_and_nine(self):
        self.check("a*b + c*d - e*f + 2*g*h")
        self.check(" + ".join(f"{c}*{c}" for c in "abcdefgh"))
        self.check(" - ".join(f"{c}*{d}" for c in "qrstuvwx" for d in "qrstuvwx"))
        for text in ("a*b + c*d - e*f + 2*g*h + i*a", " + ".join(f"{c}*{c}" for c in string.ascii_lowercase),
                     "a*b + c*d - e*f + g*h + 0*i*i"):
            with self.assertRaises(NoText):
                read_form(text)

    def test_any(self):
        source = Source(971)
        for _ in range(300):
            letters = [source.chosen(string.ascii_lowercase) for _ in range(source.whole(1, 8))]
            text = source.chosen(["", "-"])
            for k in range(source.whole(1, 12)):
                number = str(source.whole(0, 10 ** source.whole(1, 9) - 1))
                if source.whole(0, 1) == 1:
                    number += "/" + str(source.whole(1, 10 ** source.whole(1, 9) - 1))
                text += source.chosen([" + ", " - "]) if k > 0 else ""
                text += source.chosen(["", number + "*"]) + source.chosen(letters) + "*" + source.chosen(letters)
            self.check(text)

    def test_long_lines(self):
        self.check(" - ".join(["999999999/999999998*x*y"] * 70))
        self.check("-" + " + ".join(["x*y"] * 330))

    def test_value(self):
        letters, form = read_form("3*x*x - 5*x*y + 1/2*y*y - z*x")
        self.assertEqual(letters, "xyz")
        for x, y, z in ((1, 2, 3), (-1, 5, 0), (Fraction(1, 2), 3, Fraction(-2, 7))):
            self.assertEqual(known(value(form, [told(x), told(y), told(z)])),
                             3 * x * x - 5 * x * y + Fraction(y * y) / 2 - z * x)

    def test_not_written(self):
        for text in NOT_WRITTEN:
            self.assertFalse(is_written(text), text)
            with self.assertRaises(NoText, msg=repr(text)):
                read_form(text)
        self.assertTrue(issubclass(NoText, FormError))

    def test_one_sign_changed(self):
        """Each text with a sign put in, left out or put in another's place is read just where it is so written."""
        for text in ("x*x", "-2*x*y + 10/3*z*z", "a*b - 0*b*a"):
            changed = set()
            for k in range(len(text) + 1):
                changed.add(text[:k] + text[k + 1:])
                for sign in " +-*/0129abz%A.\n":
                    changed.add(text[:k] + sign + text[k:])
                    changed.add(text[:k] + sign + text[k + 1:])
            for other in sorted(changed):
                if is_written(other):
                    self.check(other)
                else:
                    with self.assertRaises(NoText, msg=repr(other)):
                        read_form(other)


class Show(unittest.TestCase):
    def test_by_hand(self):
        for text, wanted in (("x*x", "x*x"), ("-x*x", "-x*x"), ("1*x*x", "x*x"), ("y*x", "x*y"), ("x*y + y*x", "2*x*y"),
                             ("2/4*x*x", "1/2*x*x"), ("6/3*x*x", "2*x*x"), ("z*z + x*x", "x*x + z*z"),
                             ("x*x - x*x", "0"),
                             ("0*x*y", "0"), ("-3*b*a - a*a", "-a*a - 3*a*b"), ("y*y - x*x", "-x*x + y*y"),
                             ("c*b + c*a + b*a", "a*b + a*c + b*c"), ("c*c + c*b + b*b + c*a + b*a + a*a",
                                                                      "a*a + a*b + a*c + b*b + b*c + c*c"),
                             ("x*x - 1/2*x*y", "x*x - 1/2*x*y"), ("0*a*b + c*c", "c*c"),
                             ("-1/1*x*y - 1*z*z", "-x*y - z*z"),
                             ("-7/2*x*y", "-7/2*x*y"), ("10/10*x*y - 10/5*y*y", "x*y - 2*y*y")):
            letters, form = read_form(text)
            self.assertEqual(show_form(letters, form), wanted)

    def test_of_tables(self):
        self.assertEqual(show_form("xy", table_of([[0, 1], [1, 0]])), "2*x*y")
        self.assertEqual(show_form("xy", table_of([[0, Fraction(1, 2)], [Fraction(1, 2), 0]])), "x*y")
        self.assertEqual(show_form("xy", table_of([[0, Fraction(-1, 4)], [Fraction(-1, 4), 3]])), "-1/2*x*y + 3*y*y")
        self.assertEqual(show_form("k", [[(0, 1)]]), "0")
        self.assertEqual(show_form("abcdefgh", table_of([[0] * 8] * 8)), "0")

    def test_read_again(self):
        source = Source(972)
        for n in range(1, 9):
            for _ in range(25):
                letters = "".join(sorted(source.chosen(string.ascii_lowercase[k::8][:3]) for k in range(n)))
                form = source.form(n, 50)
                form[0][0] = told(Fraction(source.whole(1, 9), 7))
                # Each unknown has to be in some term to be read again.
                for k in range(n):
                    form[k][k] = told(Fraction(source.whole(1, 999999999), source.whole(1, 999999999)))
                text = show_form(letters, form)
                self.assertTrue(is_written(text), text)
                self.assertEqual(read_form(text), (letters, form))
                self.assertEqual(show_form(*read_form(text)), text)

    def test_more_than_nine_figures(self):
        self.assertEqual(show_form("x", [[(10 ** 12, 1)]]), "1000000000000*x*x")
        self.assertEqual(show_form("xy", table_of([[0, -10 ** 30], [-10 ** 30, Fraction(1, 10 ** 40)]])),
                         f"-{2 * 10 ** 30}*x*y + 1/{10 ** 40}*y*y")
        with self.assertRaises(NoText):
            read_form(show_form("x", [[(10 ** 9, 1)]]))
        with self.assertRaises(NoText):
            read_form(show_form("x", [[(0, 1)]]))
        self.assertEqual(show_form("x", [[(10 ** 9 - 1, 1)]]), "999999999*x*x")

    def test_whole_numbers(self):
        source = Source(973)
        for k in [0, 1, -1, 9, 10, 999999999, 10 ** 9, -10 ** 9, 10 ** 9 + 1, 10 ** 18, 10 ** 18 + 7, -10 ** 300] + \
                [source.whole(-10 ** size, 10 ** size) for size in range(1, 60)]:
            self.assertEqual(show_whole(k), str(k))
        # Longer than what Python writes at once.
        self.assertEqual(show_whole(-(10 ** 5000) - 7), "-1" + "0" * 4999 + "7")


class NothingChangedOrKept(unittest.TestCase):
    def test_all(self):
        for text in ("x*x", "x*y - 3*z*z", "0*a*b"):
            check_nothing_changed_or_kept(self, read_form, [text])
            check_nothing_changed_or_kept(self, show_form, list(read_form(text)))


if __name__ == "__main__":
    unittest.main()
