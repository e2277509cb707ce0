"""[B3]: texts of sentences and lots, there and back, and texts that are none."""

import itertools
import math
import unittest

from answerlines.errors import BadText
from answerlines.sentencetexts import lot_text, read_lot, read_sentence, sentence_text
from tests.helping import ODD_VALUES, OF_400, OF_401, OF_5001, Checks, asked

ROWS = [
    (0, "1 >= 0", ("ge", (1,))), (0, "-1 > 0", ("gt", (-1,))), (0, "0 >= 0", ("ge", (0,))),
    (0, "0 > 0", ("gt", (0,))), (1, "x1 > 0", ("gt", (0, 1))), (1, "-x1 >= 0", ("ge", (0, -1))),
    (1, "x1 - 4 > 0", ("gt", (-4, 1))), (1, "-x1 + 4 > 0", ("gt", (4, -1))), (1, "2*x1 + 1 >= 0", ("ge", (1, 2))),
    (1, "-2*x1 - 1 >= 0", ("ge", (-1, -2))), (1, "1 > 0", ("gt", (1, 0))), (1, "0 > 0", ("gt", (0, 0))),
    (1, "10*x1 - 11 > 0", ("gt", (-11, 10))), (2, "2*x1 - x2 + 3 >= 0", ("ge", (3, 2, -1))),
    (2, "-7*x2 - 5 > 0", ("gt", (-5, 0, -7))), (2, "x2 > 0", ("gt", (0, 0, 1))),
    (2, "x1 + x2 >= 0", ("ge", (0, 1, 1))), (2, "-x1 - x2 - 1 >= 0", ("ge", (-1, -1, -1))),
    (2, "-1 > 0", ("gt", (-1, 0, 0))), (3, "x1 - 2*x3 + 3 > 0", ("gt", (3, 1, 0, -2))),
    (3, "-3*x2 + 2*x3 >= 0", ("ge", (0, 0, -3, 2))),
    (8, "x1 - x2 + 2*x3 - 2*x4 + 3*x5 - 3*x6 + 12*x7 - 12*x8 - 100 >= 0", ("ge", (-100, 1, -1, 2, -2, 3, -3, 12, -12))),
    (8, "-x8 > 0", ("gt", (0, 0, 0, 0, 0, 0, 0, 0, -1))),
]
BAD_LOTS = [
    # Unknowns that do not rise, come twice, or are none of the two there are.
    "x2 + x1 > 0", "x2 - x1 > 0", "x1 + x1 > 0", "x1 + 2*x1 > 0", "x1 - x1 > 0", "x2 + x1 + x2 > 0", "x3 > 0",
    "x0 > 0", "x9 > 0", "x10 > 0", "x01 > 0", "x02 > 0", "x > 0", "x-1 > 0", "x+1 > 0", "xx1 > 0", "x1x2 > 0",
    "X1 > 0", "y1 > 0", "x1.0 > 0", "x1 + x3 > 0", "x1 + x0 > 0", "x\n1 > 0", "x12 > 0", "x11 > 0",
    # Constants ahead of unknowns, twice, or 0 beside another part.
    "3 + x1 > 0", "1 - x1 > 0", "x1 + 0 > 0", "x1 - 0 >= 0", "0 + x1 > 0", "x1 + 1 + 1 > 0", "1 + 0 > 0",
    "x1 + 1 - 2 > 0", "1 + 2 >= 0",
    # Numbers that are not written so.
    "1*x1 > 0", "-1*x1 > 0", "0*x1 > 0", "0*x1 + 1 > 0", "x1 + 0*x2 > 0", "x1 + 1*x2 > 0", "-0*x1 + x2 > 0",
    "02*x1 + 1 > 0", "2x1 + 1 > 0", "*x1 > 0", "2**x1 + 1 > 0", "2*3*x1 + 1 > 0", "x1*2 + 1 > 0", "2*x1* + 1 > 0",
    "+2*x1 + 1 > 0", "--x1 > 0", "+x1 > 0", "x1 + 01 > 0", "x1 + 1_0 > 0", "x1 - -1 > 0", "x1 + -1 > 0",
    "x1 - +1 > 0", "x1 + +1 > 0", "01 > 0", "-0 > 0", "-0 >= 0", "00 > 0", "+1 > 0", "--1 > 0", "1.0 > 0", "1/2 > 0",
    "x1 + 1/2 > 0", "1/2*x1 > 0", "- > 0", "-", "2* + 1 > 0", "* > 0", "2* > 0", "- x1 > 0",
    # A common divisor.
    "2*x1 > 0", "-2*x1 >= 0", "2 > 0", "-2 >= 0", "2*x1 + 2 > 0", "3*x1 - 6*x2 + 9 > 0", "4*x1 + 2*x2 >= 0", "100 > 0",
    # Other signs and sides.
    "x1 < 0", "x1 <= 0", "x1 = 0", "x1 == 0", "x1 != 0", "x1 => 0", "x1 >> 0", "x1 > 1", "x1 > -0", "x1 > 00", "x1 >",
    "> 0", "x1 0", "x1", "0", "0 < x1", "x1 > 0 > 0", "x1 > 0 0", "x1 > x2", "x1 >=0", "x1 >0", "x1> 0", "x1>0",
    "x1 > 0;", "x1 > 0.", ">= 0", ">=", ">", "1 > 0 0",
    # Blanks and line feeds.
    " x1 > 0", "x1 > 0 ", "x1  > 0", "x1 >  0", "x1 + x2  > 0", "x1  + x2 > 0", "x1 +  x2 > 0", "x1 +x2 > 0",
    "x1+ x2 > 0", "x1+x2 > 0", "x1 -1 > 0", "x1 > 0\n", "\nx1 > 0", "x1\n> 0", "x1 >\n0", "2 *x1 + 1 > 0",
    "2* x1 + 1 > 0", "2 * x1 + 1 > 0", "- x1 + 1 > 0", "x 1 > 0", "x1 + > 0", "x1 - > 0", "+ x1 > 0", "x1 x2 > 0",
    "x1 + + x2 > 0", "x1 + x2 + > 0", "x1 * x2 > 0", "x1 & x2 > 0", "  > 0", " > 0",
    # Rows: twice, joined otherwise, none at all.
    "x1 > 0 & x1 > 0", "x1 > 0 & x2 > 0 & x1 > 0", "0 > 0 & 0 > 0", "x1 > 0 &x2 > 0", "x1 > 0& x2 > 0",
    "x1 > 0&x2 > 0", "x1 > 0  & x2 > 0", "x1 > 0 &  x2 > 0", "x1 > 0 & & x2 > 0", "x1 > 0 &", "x1 > 0 & ",
    " & x1 > 0", "& x1 > 0", "&", " & ", "x1 > 0 && x2 > 0", "x1 > 0 and x2 > 0", "x1 > 0, x2 > 0",
    "x1 > 0\n& x2 > 0", "x1 > 0 &\nx2 > 0", "x1 > 0 | x2 > 0", "", " ", "\n",
    # "always" and "never" among others, or written otherwise.
    "always & x1 > 0", "x1 > 0 & always", "always & always", "always ", " always", "always\n", "Always", "ALWAYS",
    "never", "never & x1 > 0", "x1 > 0 & never", "always | x1 > 0", "always | always", "alwaysx1 > 0", "always > 0",
    "not x1 > 0",
]
BAD_SENTENCES = [
    "", " ", ":", ": ", "es", "es:", "es: ", "es:  ", "es :never", "es :x1 > 0", "es : never", " es: never",
    "es:never", "es:  never", "es: never ", "es: never\n", "es:\nnever", "e s: never", "ex: never", "E: never",
    "each: never", "1: never", "never", "always", ":never", " : never", "es; never", "es, never", "es - never",
    "es: x1 > 0 |", "es: x1 > 0 | ", "es: | x1 > 0", "es:  | x1 > 0", "es: x1 > 0 || x2 > 0", "es: x1 > 0| x2 > 0",
    "es: x1 > 0 |x2 > 0", "es: x1 > 0  | x2 > 0", "es: x1 > 0 |  x2 > 0", "es: x1 > 0 | | x2 > 0",
    "es: x1 > 0\n| x2 > 0", "es: x1 > 0 or x2 > 0", "es: never | x1 > 0", "es: x1 > 0 | never", "es: never | never",
    "es: always & x1 > 0", "es: x1 > 0 & always | x2 > 0", "es: x1 > 0 | always & always",
    "es: x1 > 0 | never | always", "es: Never", "es: es: never", "es: : never", ": : never", "es: never: ",
    "e: x2 > 0", "e: x1 > 0 | x2 > 0", ": x1 > 0", "es: x3 > 0", "eeeeeeeee: never", "eeeeeeeee: always",
    "sssssssss: x9 > 0", "es: x1 > 0 & x1 > 0", "es: x1 > 0 | x2 > 0 & x2 > 0", "e: 2*x1 >= 0", "e: 1*x1 >= 0",
    "es: x2 - x1 > 0", "es: x1 > 0 | 2*x2 > 0", "es: -0 > 0", "\nes: never", "es\n: never",
]
UNLIKE = [("gt", (1, number)) for number in range(17)]


def texts_of(lots):
    return [asked(sentence_text, ("e", lots)), sentence_text(("s", lots))]


class There(Checks, unittest.TestCase):

    def test_each_row_there_and_back(self):
        for n, text, row in ROWS:
            self.tells(text, lot_text, n, (row,))
            self.tells((row,), read_lot, n, text)
            owners = "es" * (n // 2) + "e" * (n % 2)
            self.tells(f"{owners}: {text}", sentence_text, (owners, ((row,),)))
            self.tells((owners, ((row,),)), read_sentence, f"{owners}: {text}")

    def test_lots(self):
        lot = (("ge", (3, 2, -1)), ("gt", (-1, 0, 0)), ("ge", (0, 0, 0)), ("gt", (-5, 0, -7)))
        text = "2*x1 - x2 + 3 >= 0 & -1 > 0 & 0 >= 0 & -7*x2 - 5 > 0"
        self.tells(text, lot_text, 2, lot)
        self.tells(lot, read_lot, 2, text)

    def test_lots_without_rows(self):
        for n in range(9):
            self.tells("always", lot_text, n, ())
            self.tells((), read_lot, n, "always")

    def test_sentences(self):
        for sentence, text in (
            (("", ()), ": never"), (("", ((),)), ": always"), (("es", ()), "es: never"),
            (("se", ((), ())), "se: always | always"), (("es", ((("gt", (0, -1, 1)),),)), "es: -x1 + x2 > 0"),
            (("", ((("ge", (-1,)), ("gt", (0,))), ())), ": -1 >= 0 & 0 > 0 | always"),
            (("e", ((("ge", (0, 1)),), (("ge", (0, -1)),))), "e: x1 >= 0 | -x1 >= 0"),
            (("s", ((), (("gt", (0, 1)),))), "s: always | x1 > 0"),
            (("e", ((("ge", (0, 1)),),) * 2), "e: x1 >= 0 | x1 >= 0"), (("essesees", ()), "essesees: never"),
            (("es", ((("gt", (0, 1, 0)), ("gt", (0, 0, 1))), (("ge", (-1, 0, 2)),))),
            "es: x1 > 0 & x2 > 0 | 2*x2 - 1 >= 0"),
        ):
            self.tells(text, sentence_text, sentence)
            self.tells(sentence, read_sentence, text)

    def test_all_small_rows_there_and_back_with_unlike_texts(self):
        for n, most in ((0, 1), (1, 12), (2, 3), (3, 1)):
            numbers = itertools.product(range(-most, most + 1), repeat=n + 1)
            rows = [(word, own) for own in numbers if math.gcd(*own) <= 1 for word in ("ge", "gt")]
            texts = [lot_text(n, (row,)) for row in rows]
            self.assertEqual(len(rows), len(set(texts)))
            self.assertEqual([(row,) for row in rows], [read_lot(n, text) for text in texts])

    def test_unlike_sentences_have_unlike_texts(self):
        first, second = UNLIKE[:2]
        few = [(), (first,), (second,), (first, second), (second, first)]
        lots = [own for many in range(4) for own in itertools.product(few, repeat=many)]
        sentences = [(owners, own) for owners in "es" for own in lots]
        texts = [text for own in lots for text in texts_of(own)]
        self.assertEqual(len(sentences), len(set(texts)))
        for owners, own in sentences:
            self.tells((owners, own), read_sentence, sentence_text((owners, own)))

    def test_great_numbers(self):
        nines = 10 ** 400 - 1
        for row in (
            ("gt", (OF_400, 1)), ("ge", (-OF_400, OF_400 - 1)), ("ge", (1, -OF_400)), ("gt", (-1, nines)),
            ("gt", (-nines, 1)),
        ):
            text = asked(lot_text, 1, (row,))
            self.tells((row,), read_lot, 1, text)
            self.tells(("s", ((row,), ())), read_sentence, asked(sentence_text, ("s", ((row,), ()))))
        self.tells(f"-{OF_400}*x1 + 1 >= 0", lot_text, 1, (("ge", (1, -OF_400)),))

    def test_sixteen_rows_and_lots(self):
        lot = tuple(UNLIKE[:16])
        self.tells(lot, read_lot, 1, asked(lot_text, 1, lot))
        self.tells(("e", (lot,) * 16), read_sentence, asked(sentence_text, ("e", (lot,) * 16)))
        self.tells(("e", ((),) * 16), read_sentence, "e: " + " | ".join(["always"] * 16))


class Refused(Checks, unittest.TestCase):

    def test_texts_of_no_lot(self):
        for text in BAD_LOTS:
            self.refuses(BadText, read_lot, 2, text)

    def test_texts_of_no_lot_in_sentences(self):
        for text in BAD_LOTS:
            if not text.startswith("always |") and text not in ("never", "x1 > 0 | x2 > 0"):
                for around in ("es: {}", "es: x1 > 0 | {}", "es: {} | always"):
                    self.refuses(BadText, read_sentence, around.format(text))

    def test_texts_of_no_sentence(self):
        for text in BAD_SENTENCES:
            self.refuses(BadText, read_sentence, text)

    def test_unknowns_beyond_n(self):
        for n in range(9):
            for unknown in range(1, 12):
                text = f"x{unknown} > 0"
                if unknown <= n:
                    wanted = tuple(int(place == unknown) for place in range(n + 1))
                    self.tells((("gt", wanted),), read_lot, n, text)
                    self.tells(("e" * n, ((("gt", wanted),),)), read_sentence, f"{'e' * n}: {text}")
                else:
                    self.refuses(BadText, read_lot, n, text)
                    self.refuses(BadText, read_sentence, f"{'e' * n}: {text}")

    def test_no_unknowns(self):
        for text in ("x1 > 0", "x0 > 0", "2 > 0", "-3 >= 0", "-0 > 0", "never", "", "x > 0", "0*x1 > 0", "1 + 1 > 0"):
            self.refuses(BadText, read_lot, 0, text)

    def test_more_than_400_figures(self):
        for great in (str(OF_401), "1" * 4301, "1" * 5000, "9" * 19000, "0" * 401, "0" * 5000):
            for text in (
                f"x1 + {great} > 0", f"x1 - {great} > 0", f"{great}*x1 + 1 > 0", f"-{great}*x1 + 1 >= 0",
                f"x{great} > 0", f"{great} > 0", f"x1 > {great}", f"x1 > 0 & x1 + {great} > 0",
            ):
                self.refuses(BadText, read_lot, 1, text)
                self.refuses(BadText, read_sentence, "e: " + text)
                self.refuses(BadText, read_sentence, "e: always | " + text)

    def test_seventeen_rows_and_lots(self):
        texts = [lot_text(1, (row,)) for row in UNLIKE]
        self.refuses(BadText, read_lot, 1, " & ".join(texts))
        self.refuses(BadText, read_sentence, "e: " + " & ".join(texts))
        self.refuses(BadText, read_sentence, "e: " + " | ".join(texts))
        self.refuses(BadText, read_sentence, "e: " + " | ".join(["always"] * 17))
        self.refuses(BadText, read_lot, 1, " & ".join(texts[:16] + texts[3:4]))

    def test_very_long_texts(self):
        for text in (
            " | ".join(["always"] * 2200), " & ".join(["x1 > 0"] * 2200), "e" * 19990 + ": never",
            "e" * 10000 + ": " + "x1 > 0 & " * 1000, ": " * 10000, "x1 + " * 3900 + "x1 > 0", "&" * 20000,
            " " * 20000, "x" * 20000, "-" * 20000, "*" * 19990 + "x1 > 0",
        ):
            self.refuses(BadText, read_lot, 8, text)
            self.refuses(BadText, read_sentence, text)
            self.refuses(BadText, read_sentence, "es: " + text)

    def test_values_that_are_no_strings(self):
        for value in (
            *ODD_VALUES, ("always",), ["always"], ("es", ()), (("gt", (1, 1)),), {"es": "never"}, b"always", OF_5001,
        ):
            self.refuses(BadText, read_lot, 1, value)
            self.refuses(BadText, read_sentence, value)


if __name__ == "__main__":
    unittest.main()
