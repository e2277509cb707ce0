"""[A3] The errors: their family, their arguments, and what they keep."""

import copy
import unittest

from answerlines import errors
from answerlines.errors import LineError
from tests.helping import ODD_VALUES, parameters, same

BARE = ("Unfit", "BadText", "TooManyEdits", "NothingToUndo", "NothingToRedo")
KEEPING = {
    "BadSentence": "error", "BadPaper": "error", "BadPlan": "error", "NoName": "given",
    "TooMany": "limit", "NoVersion": "given", "BadLog": "place",
}


class Errors(unittest.TestCase):

    def test_these_and_no_others(self):
        told = {name for name, worth in vars(errors).items() if isinstance(worth, type)}
        self.assertEqual({"LineError", *BARE, *KEEPING}, told)

    def test_line_error_is_directly_under_value_error(self):
        self.assertEqual((ValueError,), LineError.__bases__)

    def test_each_other_one_is_directly_under_line_error(self):
        for name in (*BARE, *KEEPING):
            with self.subTest(name):
                self.assertEqual((LineError,), getattr(errors, name).__bases__)

    def test_bare_ones_are_made_without_arguments_and_keep_nothing(self):
        for name in BARE:
            with self.subTest(name):
                self.assertEqual({}, vars(getattr(errors, name)()))

    def test_the_others_take_one_argument_of_the_told_name(self):
        for name, field in KEEPING.items():
            with self.subTest(name):
                self.assertEqual((field,), parameters(getattr(errors, name)))
                with self.assertRaises(TypeError):
                    getattr(errors, name)()

    def test_any_value_is_kept_just_as_it_was_passed(self):
        for name, field in KEEPING.items():
            made = getattr(errors, name)
            for value in ODD_VALUES:
                ahead = copy.deepcopy(value)
                for error in (made(value), made(**{field: value})):
                    self.assertIs(value, getattr(error, field))
                    self.assertEqual([field], list(vars(error)))
                    self.assertTrue(same(ahead, value))

    def test_all_of_them_have_words_whatever_they_keep(self):
        for name in KEEPING:
            for value in ODD_VALUES:
                self.assertIsInstance(str(getattr(errors, name)(value)), str)

    def test_they_can_be_raised_and_caught_by_name(self):
        for name in KEEPING:
            made = getattr(errors, name)
            with self.assertRaises(made) as caught:
                raise made(("row", 0, 1))
            self.assertEqual(("row", 0, 1), getattr(caught.exception, KEEPING[name]))


if __name__ == "__main__":
    unittest.main()
