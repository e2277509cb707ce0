"""[C5]: texts of papers, there and back, and texts that are none."""

import unittest

from answerlines.errors import BadText
from answerlines.papertexts import paper_text, read_paper
from tests.helping import ODD_VALUES, OF_400, OF_401, OF_5001, Checks, asked
from tests.somepapers import EITHER, HALF, NO, PAPERS, SIZE, STAY, YES

# Pairs of the form of papers, though papers of no sentence, with their texts.
OTHERS = [
    ("no: lot 0", ("no", (("lot", 0),))), ("yes: lot 10", ("yes", (("lot", 10),))),
    ("yes: against", ("yes", (("against", ()),))), ("no: against", ("no", (("against", ()),))),
    ("no: against 3", ("no", (("against", (3,)),))), ("no: against 0 0 12", ("no", (("against", (0, 0, 12)),))),
    ("yes: cover 0", ("yes", (("cover", (0,)),))), ("yes: cover 7 7 0", ("yes", (("cover", (7, 7, 0)),))),
    ("no: answer 5, 0", ("no", (("answer", 5, ((0, 1),)),))),
    ("no: answer 0, -1/2 3 -4 5/6", ("no", (("answer", 0, ((-1, 2), (3, 1), (-4, 1), (5, 6))),))),
    ("yes: against; against 1; against", ("yes", (("against", ()), ("against", (1,)), ("against", ())))),
    ("yes: answer 12, 0 0; lot 100; cover 99 1; against 1 2", (
        "yes", (("answer", 12, ((0, 1), (0, 1))), ("lot", 100), ("cover", (99, 1)), ("against", (1, 2))),
    )),
]
BAD = [
    # No side, another one, no step, or none behind a semicolon.
    "", " ", "yes", "no", "yes:", "no:", "yes: ", "yes:  ", "no: ;", "yes: ; ", ": lot 0", "lot 0", "maybe: lot 0",
    "Yes: lot 0", "YES: lot 0", "yesno: lot 0", "yes no: lot 0", "y: lot 0", "yes: yes: lot 0", "yes: lot 0;",
    "yes: lot 0; ", "yes: ; lot 0", "yes: lot 0; ; lot 0", "yes: lot 0;; lot 0", ";yes: lot 0", "yes; lot 0",
    # Blanks and line feeds.
    " yes: lot 0", "yes : lot 0", "yes:lot 0", "yes:  lot 0", "yes: lot  0", "yes: lot 0 ", "yes: lot 0;lot 0",
    "yes: lot 0 ; lot 0", "yes: lot 0;  lot 0", "yes: lot0", "yes: lot 0\n", "\nyes: lot 0", "yes:\nlot 0",
    "yes: lot\n0", "yes: lot 0;\nlot 0", "yes: lot 0\n; lot 0", "no: against 0  0", "no: against  0", "no: against ",
    "no: against\n", "no: against0", "yes: cover 0 ", "yes: cover  0", "yes: cover 0\n", "yes: answer 0,0",
    "yes: answer 0, 0 ", "yes: answer 0,  0", "yes: answer 0 , 0", "yes: answer  0, 0", "yes: answer 0, 0  0",
    "yes: answer 0, 0\n", "yes: answer\n0, 0", "yes: answer 0,\n0", "yes:\tlot 0",
    # Words.
    "yes: lots 0", "yes: Lot 0", "yes: LOT 0", "yes: 0", "yes: lot lot 0", "yes: 0 lot", "yes: lot zero", "yes: row 0",
    "no: Against 0", "no: against against 0", "no: against lot 0", "yes: covers 0", "yes: Cover 0", "yes: answers 0, 0",
    "yes: lot 0 lot 0", "yes: lot 0, lot 0", "yes: lot 0: lot 0", "yes: lot 0. lot 0", "no: lot", "yes: the lot 0",
    # Items more, fewer, exchanged.
    "yes: lot", "yes: lot 0 0", "yes: lot ,", "yes: lot 0,", "yes: cover", "yes: cover ,", "yes: cover 0,",
    "yes: cover 0, 0", "no: against 0,", "no: against 0, 0", "no: against ,", "yes: answer", "yes: answer 0",
    "yes: answer 0,", "yes: answer 0, ", "yes: answer , 0", "yes: answer 0 0", "yes: answer 0 0,",
    "yes: answer 00 0", "yes: answer 12 0", "yes: answer 0. 0", "yes: answer 0,, 0", "yes: answer 0, 0,",
    "yes: answer 0, 0, 0", "yes: answer 0, ,", "yes: answer ,0 0", "yes: answer 0; 0", "yes: answer, 0 0",
    "yes: answer 1/2, 0",
    # Integers that are not written so, or are below 0.
    "yes: lot 00", "yes: lot 01", "yes: lot -1", "yes: lot -0", "yes: lot +1", "yes: lot 1.0", "yes: lot 1_0",
    "yes: lot 1e1",
    "yes: lot 1/2", "yes: lot x", "yes: lot \u0661", "yes: lot \u00b2", "no: against 00", "no: against 0 01",
    "no: against -1", "no: against 1/2", "yes: cover 00", "yes: cover 0 -1", "yes: cover 01", "yes: cover 3/1",
    "yes: answer 00, 0", "yes: answer -1, 0", "yes: answer 01, 0", "yes: answer x, 0",
    # Fractions that are not written so.
    "yes: answer 0, 2/4", "yes: answer 0, 3/1", "yes: answer 0, -0", "yes: answer 0, 0/2", "yes: answer 0, 1/0",
    "yes: answer 0, 00", "yes: answer 0, 01", "yes: answer 0, 1/02", "yes: answer 0, +1", "yes: answer 0, 1/-2",
    "yes: answer 0, 1 / 2", "yes: answer 0, 1/", "yes: answer 0, /2", "yes: answer 0, 1/2/3", "yes: answer 0, x1",
    "yes: answer 0, 0.5", "yes: answer 0, --1", "yes: answer 0, 0 2/4", "yes: answer 0, 2/2 0", "yes: answer 0, -",
]


class Texts(Checks, unittest.TestCase):

    def there_and_back(self, text, paper):
        self.tells(text, paper_text, paper)
        self.tells(paper, read_paper, text)

    def test_papers(self):
        self.there_and_back("yes: lot 0; answer 0, 0 1; cover 1", YES)
        self.there_and_back("no: against 0; answer 0, -1 1; cover 1", NO)
        self.there_and_back("yes: lot 0; lot 1; cover 1 0", EITHER)
        self.there_and_back("yes: lot 0; answer 0, 1/2 1; cover 1", HALF)
        self.there_and_back("yes: lot 0; answer 0, 0 1; lot 1; answer 2, 0 -1; cover 3 1", SIZE)
        self.there_and_back("yes: lot 0; answer 0, 2 0 3/2; lot 1; answer 2, 0 0 0; cover 3 1; answer 4, 0", STAY)
        for _, paper in PAPERS:
            self.there_and_back(asked(paper_text, paper), paper)

    def test_other_pairs_of_their_form(self):
        for text, paper in OTHERS:
            self.there_and_back(text, paper)

    def test_unlike_pairs_have_unlike_texts(self):
        papers = {paper for _, paper in PAPERS} | {paper for _, paper in OTHERS}
        self.assertEqual(len(papers), len({asked(paper_text, paper) for paper in papers}))

    def test_integers_of_400_figures(self):
        for fraction, text in (
            ((OF_400, 1), str(OF_400)), ((-OF_400, 1), f"-{OF_400}"), ((1, OF_400), f"1/{OF_400}"),
            ((-OF_400, OF_400 - 1), f"-{OF_400}/{OF_400 - 1}"),
        ):
            self.there_and_back(f"no: answer 0, 0 {text} 1", ("no", (("answer", 0, ((0, 1), fraction, (1, 1))),)))
        self.there_and_back(f"yes: lot {OF_400}", ("yes", (("lot", OF_400),)))
        self.there_and_back(f"no: against {OF_400} 0", ("no", (("against", (OF_400, 0)),)))
        self.there_and_back(f"yes: cover {OF_400}", ("yes", (("cover", (OF_400,)),)))

    def test_as_many_steps_as_a_paper_may_have(self):
        self.there_and_back("yes: " + "; ".join(["lot 0"] * 4000), ("yes", (("lot", 0),) * 4000))


class BadTexts(Checks, unittest.TestCase):

    def test_texts_that_are_none(self):
        for text in BAD:
            self.refuses(BadText, read_paper, text)

    def test_steps_among_right_ones(self):
        for text in BAD:
            if text.startswith("yes: ") and text.strip("yes: ;\n"):
                self.refuses(BadText, read_paper, f"{text}; lot 0")
                self.refuses(BadText, read_paper, "yes: lot 0; " + text.removeprefix("yes: "))

    def test_integers_of_more_figures(self):
        nines, ones = "9" * 401, "1" * 5000
        for figures in (str(OF_401), nines, ones, "1" * 20000):
            for text in (
                f"yes: lot {figures}", f"no: against 0 {figures}", f"yes: cover {figures}", f"yes: answer {figures}, 0",
                f"yes: answer 0, {figures}", f"yes: answer 0, 0 -{figures}", f"yes: answer 0, 1/{figures}",
                f"yes: answer 0, {figures}/7",
            ):
                self.refuses(BadText, read_paper, text)

    def test_too_many_steps(self):
        self.refuses(BadText, read_paper, "yes: " + "; ".join(["lot 0"] * 4001))
        self.refuses(BadText, read_paper, "no: " + "; ".join(["against"] * 6000))

    def test_values_that_are_no_strings_and_others(self):
        for value in ODD_VALUES + [YES, (YES,), ["yes: lot 0"], ("yes: lot 0",), b"yes: lot 0", OF_5001]:
            self.refuses(BadText, read_paper, value)


if __name__ == "__main__":
    unittest.main()
