"""[B1], [B2]: sentences, what is wrong with what is none, and owners."""

import itertools
import unittest

from answerlines.sentences import owner_of, sentence_error
from tests.helping import ODD_VALUES, OF_400, OF_5001, Checks

FIRST, SECOND, THIRD = ("ge", (0, 1)), ("gt", (0, 1)), ("ge", (-1, 2))
UNLIKE = tuple(("ge", (1, number)) for number in range(17))


class Sentences(Checks, unittest.TestCase):

    def test_sentences(self):
        for value in (
            ("", ()), ("", ((),)), ("", ((("ge", (1,)), ("gt", (0,)), ("ge", (0,)), ("gt", (-1,))),)), ("e", ()),
            ("s", ((),)), ("e", ((FIRST, SECOND), (SECOND,), ())), ("es", ((("gt", (0, -1, 1)),),)),
            ("eesessee", ((("ge", (1,) * 9),),)), ("e", ((("ge", (OF_400, 1)), ("gt", (OF_5001, 1))),)),
        ):
            self.tells(None, sentence_error, value)

    def test_lots_may_be_alike_rows_of_a_lot_may_not(self):
        self.tells(None, sentence_error, ("e", ((FIRST,), (FIRST,), (), ())))
        self.tells(("twice", 0, 1), sentence_error, ("e", ((FIRST, FIRST),)))

    def test_rows_with_other_words_or_slopes_are_unlike(self):
        self.tells(None, sentence_error, ("e", ((FIRST, SECOND, ("ge", (1, 1)), ("ge", (0, -1))),)))

    def test_form(self):
        for value in (
            ["es", ()], ("es",), ("es", (), ()), (), "es", None, {"es": ()}, [("es", ())], ("ex",), ["ex", 1],
        ):
            self.tells("form", sentence_error, value)

    def test_owners(self):
        for owners in (
            "ex", "E", "e s", "e\n", " ", "es ", "1", "each", None, 0, True, ("e",), ["e"], {"e": 1}, ("e", "s"), (),
            OF_5001,
        ):
            self.tells("owners", sentence_error, (owners, ()))

    def test_eight_owners_and_nine(self):
        for owners in ("eeeeeeee", "ssssssss", "esesesse"):
            self.tells(None, sentence_error, (owners, ((("gt", (1,) * 9),),)))
            self.tells("owners", sentence_error, (owners + "e", ()))
        self.tells("owners", sentence_error, ("es" * 10000, ()))

    def test_all_owners_of_up_to_five(self):
        for many in range(6):
            for signs in itertools.product("es", repeat=many):
                self.tells(None, sentence_error, ("".join(signs), ((("ge", (1,) * (many + 1)),),)))

    def test_lots(self):
        for lots in ([], [()], None, "", "()", 0, {}, {0: ()}, ((),) * 17, (7,) * 17, True):
            self.tells("lots", sentence_error, ("e", lots))

    def test_sixteen_lots_and_seventeen(self):
        self.tells(None, sentence_error, ("e", ((FIRST,),) * 16))
        self.tells("lots", sentence_error, ("e", ((FIRST,),) * 17))

    def test_lot(self):
        for place in range(16):
            for lot in ([], [FIRST], None, "", 0, {}, UNLIKE, (7,) * 17, False):
                self.tells(("lot", place), sentence_error, ("e", ((FIRST,),) * place + (lot,)))

    def test_sixteen_rows_and_seventeen(self):
        self.tells(None, sentence_error, ("e", (UNLIKE[:16],)))
        self.tells(("lot", 0), sentence_error, ("e", (UNLIKE,)))
        self.tells(("lot", 0), sentence_error, ("e", (UNLIKE[:16] + UNLIKE[:1],)))

    def test_row(self):
        for row in (
            ("ge", (0, 2)), ("ge", (1,)), ("ge", (1, 1, 1)), ("le", (1, 1)), ["ge", (1, 1)], ("ge", [1, 1]),
            ("gt", (True, 1)), ("ge", (0, True)), ("ge", (False, 1)), None, 7, (), ("ge",), "ge",
        ):
            for spot in range(16):
                self.tells(("row", 0, spot), sentence_error, ("e", (UNLIKE[:spot] + (row,),)))
            self.tells(("row", 2, 1), sentence_error, ("e", ((), (FIRST,), (THIRD, row, FIRST))))

    def test_rows_have_as_many_unknowns_as_there_are_owners(self):
        for many, numbers in itertools.product(range(9), range(1, 11)):
            wanted = None if numbers == many + 1 else ("row", 0, 0)
            self.tells(wanted, sentence_error, ("e" * many, ((("gt", (1,) * numbers),),)))

    def test_twice(self):
        for spot in range(1, 16):
            for elder in range(spot):
                lot = UNLIKE[:spot] + (UNLIKE[elder],) + UNLIKE[spot:15]
                self.tells(("twice", 1, spot), sentence_error, ("e", ((FIRST,), lot)))
        self.tells(("twice", 0, 2), sentence_error, ("e", ((FIRST, SECOND, FIRST, SECOND),)))
        self.tells(("twice", 0, 1), sentence_error, ("e", ((FIRST, FIRST, FIRST),)))

    def test_true_is_no_1_beside_it(self):
        self.tells(("row", 0, 1), sentence_error, ("e", ((("ge", (0, 1)), ("ge", (0, True))),)))
        self.tells(("row", 0, 1), sentence_error, ("e", ((("ge", (0, 1)), ("ge", (False, 1))),)))
        self.tells(("row", 0, 0), sentence_error, ("", ((("ge", (True,)), ("ge", (1,))),)))

    def test_the_first_one_that_applies(self):
        bad, lot = ("le", (1, 1)), [FIRST]
        for wanted, value in (
            ("form", ["ex", [()]]), ("owners", ("ex", [()])), ("owners", ("ex", (lot,))),
            ("owners", ("eeeeeeeee", ((bad,),))), ("lots", ("e", [lot])), ("lots", ("e", (lot,) * 17)),
            (("lot", 0), ("e", (lot, (bad,)))), (("row", 0, 0), ("e", ((bad,), lot))),
            (("row", 1, 0), ("e", ((FIRST,), (bad, bad), lot))),
            (("twice", 0, 1), ("e", ((FIRST, FIRST), lot, (bad,)))), (("row", 0, 2), ("e", ((FIRST, FIRST, bad),))),
            (("row", 0, 0), ("e", ((bad, FIRST, FIRST),))), (("lot", 1), ("e", ((FIRST,), (bad,) * 17, (bad,)))),
            (("row", 0, 1), ("e", ((FIRST, bad, bad), (FIRST, FIRST)))),
            (("twice", 1, 1), ("e", ((), (FIRST, FIRST), (bad,)))),
        ):
            self.tells(wanted, sentence_error, value)

    def test_values_of_all_kinds(self):
        for value in ODD_VALUES:
            pair = isinstance(value, tuple) and len(value) == 2
            owners = pair and isinstance(value[0], str) and set(value[0]) <= {"e", "s"} and len(value[0]) <= 8
            self.tells("lots" if owners else "owners" if pair else "form", sentence_error, value)
            if value not in ("", "e"):
                self.tells("owners", sentence_error, (value, ()))
            self.tells("lots", sentence_error, ("e", [value]))
            self.tells(("row", 1, 1), sentence_error, ("e", ((), (FIRST, value))))
            if not isinstance(value, tuple):
                self.tells("lots", sentence_error, ("e", value))
                self.tells(("lot", 1), sentence_error, ("e", ((), value)))


class OwnerOf(Checks, unittest.TestCase):

    def test_each_unknown_of_all_owners(self):
        for many in range(1, 9):
            for owners in ("e" * many, "s" * many, "esseesse"[:many], "seesesse"[:many]):
                for number in range(1, many + 1):
                    wanted = {"e": "each", "s": "some"}[owners[number - 1]]
                    self.tells(wanted, owner_of, (owners, ()), number)

    def test_the_lots_do_not_matter(self):
        for lots in ((), ((),), ((("gt", (0, -1, 1)),),)):
            self.tells("each", owner_of, ("es", lots), 1)
            self.tells("some", owner_of, ("es", lots), 2)


if __name__ == "__main__":
    unittest.main()
