"""[A7] Worths of forms."""

import fractions
import itertools
import unittest

from answerlines.forms import form_value
from tests.helping import OF_400, Checks

FEW = [(0, 1), (1, 1), (-2, 1), (1, 2), (-3, 4), (5, 3)]


class FormValue(Checks, unittest.TestCase):

    def test_no_unknowns(self):
        for constant in ((5, 1), (0, 1), (-1, 2)):
            self.tells(constant, form_value, (constant,), ())

    def test_ordinary(self):
        for form, play, wanted in (
            (((1, 2), (2, 1)), ((3, 4),), (2, 1)), (((0, 1), (1, 1), (-1, 1)), ((1, 2), (1, 3)), (1, 6)),
            (((0, 1), (1, 1), (2, 1), (-3, 1)), ((1, 1), (1, 2), (2, 3)), (0, 1)),
            (((-1, 2), (1, 3)), ((-1, 1),), (-5, 6)), (((1, 6), (1, 3)), ((1, 1),), (1, 2)),
        ):
            self.tells(wanted, form_value, form, play)

    def test_noughts(self):
        self.tells((0, 1), form_value, ((0, 1),) * 4, ((1, 2), (5, 1), (-7, 3)))
        self.tells((3, 4), form_value, ((3, 4), (1, 1), (-9, 2)), ((0, 1), (0, 1)))
        self.tells((7, 3), form_value, ((0, 1), (0, 1), (1, 1)), ((5, 1), (7, 3)))

    def test_a_longer_play(self):
        self.tells((1, 6), form_value, ((0, 1), (1, 1), (-1, 1)), ((1, 2), (1, 3), (9, 1)))
        self.tells((5, 1), form_value, ((5, 1),), ((1, 2), (3, 1)))

    def test_each_unknown_has_its_own_place(self):
        play = tuple((10 ** place, 1) for place in range(8))
        form = ((9, 10),) + tuple((place + 1, 1) for place in range(8))
        self.tells((876543219, 10), form_value, form, play)

    def test_great_numbers(self):
        self.tells((OF_400 ** 2 + 1, OF_400), form_value, ((1, OF_400), (OF_400, 1)), ((1, 1),))
        self.tells((1, 1), form_value, ((0, 1), (OF_400, OF_400 - 1)), ((OF_400 - 1, OF_400),))
        self.tells((-OF_400 ** 2, 1), form_value, ((0, 1), (-OF_400, 1)), ((OF_400, 1),))

    def test_against_pythons_own(self):
        for first, second, third, one, other in itertools.product(FEW, repeat=5):
            a, b, c, x, y = (fractions.Fraction(*own) for own in (first, second, third, one, other))
            worth = a + b * x + c * y
            self.assertEqual(
                (worth.numerator, worth.denominator), form_value((first, second, third), (one, other))
            )


if __name__ == "__main__":
    unittest.main()
