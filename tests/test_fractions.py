"""[A4] to [A6], [A10]: fractions, their order, what lies between, their texts."""

import fractions
import itertools
import unittest

from answerlines.errors import BadText, Unfit
from answerlines.fractions import between, compared, fraction_text, is_fraction, lowest, read_fraction
from tests.helping import ODD_VALUES, OF_400, OF_401, OF_5001, OF_SIXTY, Checks, asked, is_a_fraction

SMALL = sorted({fractions.Fraction(a, b) for a in range(-12, 13) for b in range(1, 6)})


def pair(number):
    return (number.numerator, number.denominator)


def number_of(fraction):
    return fractions.Fraction(*fraction)


class Lowest(Checks, unittest.TestCase):

    def test_ordinary(self):
        for a, b, wanted in (
            (6, 8, (3, 4)), (3, 4, (3, 4)), (12, 4, (3, 1)), (7, 1, (7, 1)), (-6, 8, (-3, 4)), (-5, 5, (-1, 1)),
        ):
            self.tells(wanted, lowest, a, b)

    def test_b_below_0(self):
        for a, b, wanted in ((3, -6, (-1, 2)), (-3, -6, (1, 2)), (4, -1, (-4, 1)), (-1, -1, (1, 1))):
            self.tells(wanted, lowest, a, b)

    def test_a_is_0(self):
        for b in (1, 2, -1, -5, OF_400, -OF_400):
            self.tells((0, 1), lowest, 0, b)

    def test_b_is_0(self):
        for a in (0, 1, -1, OF_400):
            self.refuses(Unfit, lowest, a, 0)

    def test_four_hundred_figures(self):
        self.tells((OF_400, OF_400 - 1), lowest, OF_400, OF_400 - 1)
        self.tells((-2, 3), lowest, 2 * OF_SIXTY ** 6, -3 * OF_SIXTY ** 6)
        self.tells((OF_400, 1), lowest, OF_400 * OF_400, OF_400)
        self.tells((1, OF_400), lowest, -OF_400, -OF_400 * OF_400)

    def test_all_small_ones_against_pythons_own(self):
        for a, b in itertools.product(range(-15, 16), repeat=2):
            if b != 0:
                self.tells(pair(fractions.Fraction(a, b)), lowest, a, b)

    def test_each_rational_number_has_one_fraction(self):
        for a, b, times in itertools.product(range(-4, 5), range(1, 5), (1, 2, 7, -1, -6, OF_400)):
            self.assertEqual(lowest(a, b), lowest(a * times, b * times))


class IsFraction(unittest.TestCase):
    """[A4], which the functions that take any value rest on."""

    def test_fractions(self):
        for value in ((0, 1), (2, 1), (-3, 4), (OF_400, OF_400 - 1), (1, OF_5001)):
            self.assertIs(True, is_fraction(value))

    def test_no_fractions(self):
        for value in (
            *ODD_VALUES, (2, 4), (0, 2), (0, 5), (1, 0), (0, 0), (1, -1), (-1, -2), (1, True), (True, 1), (False, 1),
            (1, 2, 3), [1, 2], (1.0, 2), ("1", 2), (1, "2"), (OF_400, OF_400), (2, OF_5001),
        ):
            self.assertIs(False, is_fraction(value))


class Compared(Checks, unittest.TestCase):

    def test_less_equal_greater_both_ways_round(self):
        for low, high in (
            ((1, 3), (1, 2)), ((-1, 2), (1, 2)), ((-1, 2), (-1, 3)), ((0, 1), (1, 9)), ((-1, 9), (0, 1)),
            ((-7, 2), (0, 1)), ((2, 1), (5, 2)), ((-5, 2), (-2, 1)),
        ):
            self.tells(-1, compared, low, high)
            self.tells(1, compared, high, low)

    def test_equal(self):
        for own in ((0, 1), (1, 2), (-7, 3), (OF_400, OF_400 - 1)):
            self.tells(0, compared, own, own)

    def test_great_integers(self):
        low, high = (OF_400, OF_400 + 1), (OF_400 + 1, OF_400 + 2)
        self.tells(-1, compared, low, high)
        self.tells(1, compared, high, low)
        self.tells(1, compared, (-OF_400, OF_400 + 1), (-OF_400 - 1, OF_400 + 2))
        self.tells(-1, compared, (-OF_400, 1), (OF_400, 1))
        self.tells(-1, compared, (1, OF_400), (1, OF_400 - 1))

    def test_all_small_ones_against_pythons_own(self):
        for one, other in itertools.product(SMALL, repeat=2):
            self.tells((one > other) - (one < other), compared, pair(one), pair(other))


class Between(Checks, unittest.TestCase):

    def simplest_by_trying(self, low, high):
        """Return what between has to tell, found denominator by denominator."""
        for below in itertools.count(1):
            first = low * below // 1 + 1
            inside = [a for a in range(first, first + 60) if a < high * below]
            if inside:
                return pair(fractions.Fraction(min(inside, key=abs), below))

    def test_all_small_ones_against_trying(self):
        for low, high in itertools.combinations(SMALL, 2):
            self.tells(self.simplest_by_trying(low, high), between, pair(low), pair(high))

    def test_narrow_ones_against_trying(self):
        narrow = sorted({fractions.Fraction(a, b) for b in (11, 12, 13, 17, 19) for a in range(-2 * b, 2 * b)})
        for low, high in itertools.pairwise(narrow):
            self.tells(self.simplest_by_trying(low, high), between, pair(low), pair(high))

    def test_each_kind_of_place(self):
        for low, high, wanted in (
            ((-1, 2), (1, 3), (0, 1)), ((-OF_400, 1), (1, OF_400), (0, 1)), ((-1, OF_400), (OF_400, 1), (0, 1)),
            ((0, 1), (1, 1), (1, 2)), ((0, 1), (7, 2), (1, 1)), ((0, 1), (1, 3), (1, 4)), ((0, 1), (2, 7), (1, 4)),
            ((-1, 1), (0, 1), (-1, 2)), ((-7, 2), (0, 1), (-1, 1)), ((-1, 3), (0, 1), (-1, 4)),
            ((1, 3), (1, 2), (2, 5)), ((-2, 3), (-1, 2), (-3, 5)), ((-1, 2), (-1, 3), (-2, 5)),
            ((-5, 1), (-1, 1), (-2, 1)), ((1, 1), (5, 1), (2, 1)), ((1, 1), (2, 1), (3, 2)),
            ((-2, 1), (-1, 1), (-3, 2)), ((3, 2), (5, 2), (2, 1)), ((3, 2), (2, 1), (5, 3)), ((2, 1), (5, 2), (7, 3)),
            ((7, 2), (9, 2), (4, 1)), ((7, 2), (4, 1), (11, 3)), ((-9, 2), (-7, 2), (-4, 1)),
        ):
            self.tells(wanted, between, low, high)

    def test_great_ones_that_lie_far_apart(self):
        for low, high, wanted in (
            ((OF_400, 1), (OF_400 + 2, 1), (OF_400 + 1, 1)), ((0, 1), (OF_400, 1), (1, 1)),
            ((-OF_400, 1), (OF_400, 1), (0, 1)), ((-OF_400, 1), (-1, OF_400), (-1, 1)),
            ((-OF_400, 1), (1 - OF_400, 1), (1 - 2 * OF_400, 2)), ((0, 1), (1, OF_400), (1, OF_400 + 1)),
            ((1, OF_400), (OF_400, 1), (1, 1)), ((OF_400 + 1, OF_400), (OF_400, 1), (2, 1)),
        ):
            self.tells(wanted, between, low, high)

    def check_simplest(self, low, high):
        """Check without trying all that what lies between has the least denominator.

        The neighbours of a fraction, of all fractions with lesser denominators,
        must both lie outside.
        """
        told = asked(between, low, high)
        self.assertTrue(is_a_fraction(told))
        own, down, up = number_of(told), number_of(low), number_of(high)
        self.assertTrue(down < own < up)
        a, b = told
        self.assertGreater(b, 1)
        left_below = pow(a, -1, b)
        left = fractions.Fraction(a * left_below // b, left_below)
        right = fractions.Fraction(a - left.numerator, b - left_below)
        self.assertEqual(1, a * left.denominator - b * left.numerator)
        self.assertTrue(left <= down and up <= right)

    def test_great_ones_that_lie_very_near_one_another(self):
        near = number_of(lowest(OF_400 // 7, OF_400 // 3 + 1))
        for step in (10 ** 395, 10 ** 600, 10 ** 790):
            for low in (near, -near, near + 10 ** 30, -near - 1):
                self.check_simplest(pair(low), pair(low + fractions.Fraction(1, step)))

    def test_neighbours_with_thousands_of_whole_parts(self):
        one, other = 1, 1
        while other < OF_400:
            one, other = other, one + other
        ends = sorted([fractions.Fraction(one, other), fractions.Fraction(other, one + other)])
        self.check_simplest(pair(ends[0]), pair(ends[1]))
        self.check_simplest(pair(-ends[1]), pair(-ends[0]))

    def test_between_neighbours_stands_their_sum(self):
        a, b = OF_400 - 2, OF_400 - 1
        self.tells((2 * a + 1, 2 * b + 1), between, (a, b), (a + 1, b + 1))

    def test_the_same_the_other_way_about(self):
        for low, high in itertools.combinations(SMALL[::3], 2):
            a, b = asked(between, pair(low), pair(high))
            self.tells((-a, b), between, pair(-high), pair(-low))


class Texts(Checks, unittest.TestCase):

    def test_texts(self):
        for fraction, text in (
            ((3, 4), "3/4"), ((-3, 4), "-3/4"), ((-2, 1), "-2"), ((2, 1), "2"), ((0, 1), "0"), ((1, 1), "1"),
            ((10, 1), "10"), ((-5, 12), "-5/12"), ((100, 101), "100/101"),
        ):
            self.tells(text, fraction_text, fraction)
            self.tells(fraction, read_fraction, text)

    def test_there_and_back(self):
        for number in SMALL:
            self.tells(pair(number), read_fraction, asked(fraction_text, pair(number)))

    def test_unlike_fractions_have_unlike_texts(self):
        self.assertEqual(len(SMALL), len({fraction_text(pair(number)) for number in SMALL}))

    def test_texts_of_none(self):
        for text in (
            "-0", "00", "01", "-01", "007", "1/02", "01/2", "0/1", "0/2", "-0/2", "3/1", "-3/1", "1/0", "0/0", "-1/0",
            "2/4", "-2/4", "6/3", "+1", "+1/2", "--1", "-", "/", "1/", "/2", "-/2", "1/-2", "-1/-2", "1/+2", "1//2",
            "1/2/3", "", " ", " 1", "1 ", "1 /2", "1/ 2", "1\n", "\n1", "1/2\n", "- 1", "-\n1", "1.5", "1e3", "1_000",
            "1,000", "0x1", "x", "x1", "a/b", "one", "1/x", "(1, 2)", "1:2", "2-", "1-", "None", "True", "%1", "'1'",
        ):
            self.refuses(BadText, read_fraction, text)

    def test_figures_of_other_scripts_are_none(self):
        for text in ("\u0661", "\u00b2", "1/\u0662", "\uff11"):
            self.refuses(BadText, read_fraction, text)

    def test_four_hundred_figures_are_read(self):
        great = str(OF_400)
        self.assertEqual(400, len(great))
        for text, wanted in (
            (great, (OF_400, 1)), ("-" + great, (-OF_400, 1)), ("1/" + great, (1, OF_400)),
            (f"-{great}/{OF_400 - 1}", (-OF_400, OF_400 - 1)), ("9" * 400, (10 ** 400 - 1, 1)),
        ):
            self.tells(wanted, read_fraction, text)
            self.tells(text, fraction_text, wanted)

    def test_more_figures_are_refused(self):
        great = str(OF_401)
        self.assertEqual(401, len(great))
        for text in (
            great, "-" + great, "1/" + great, great + "/3", f"-{great}/{OF_400}", f"{OF_400}/{great}", "1" * 4301,
            "-" + "1" * 5000, "1/" + "7" * 5000, "7" * 6000 + "/" + "3" * 5500, "9" * 20000, "0" * 401, "0" * 5000,
        ):
            self.refuses(BadText, read_fraction, text)

    def test_values_that_are_no_texts(self):
        for value in (*ODD_VALUES, (1, 2), ("1",), ["1"], {"1": 1}, b"1"):
            self.refuses(BadText, read_fraction, value)


if __name__ == "__main__":
    unittest.main()
