"""[K5]: a desk that is spoken to in lines."""

import copy
import unittest
from unittest import mock

from answerlines.desks import Desk
from answerlines.errors import TooMany
from answerlines.fractions import fraction_text
from answerlines.papers import paper_error
from answerlines.papertexts import read_paper
from answerlines.sentencetexts import read_sentence
from answerlines.shells import Shell
from tests.helping import ODD_VALUES, OF_400, Checks
from tests.test_compiling import EIGHT, rows_text

NINES = "9" * 400
# Lines that want a desk, and would tell no error of a desk of "es" with a lot.
OF_A_DESK = (
    "put x1 > 0", "put ", "put  x1", "put \n", "drop 0", "turn 1", "undo", "redo", "sentence",
    "who", "found",
    "paper", "reply none", "reply 1/2", "reply 1 2 3 4 5 6 7 8 9", "drop 999", "turn 0",
)
NO_LINES = (
    "", " ", "\n", "what", "none", "version", "help", "new  es", "new ", "new e s", "new ex", "new eeeeeeeee",
    "new ES", "new es ",
    " new", "new\n", "new es\n", "news", "newes", "New", "NEW es", "put", "put\nx1 > 0", "puts x1 > 0",
    "Put x1 > 0", "PUT x1 > 0",
    " put x1 > 0", "drop", "drop ", "drop 00", "drop 01", "drop 007", "drop -1", "drop -0", "drop +1", "drop 1000",
    "drop 1001",
    "drop 9999", "drop 0 ", "drop  0", "drop 0 0", "drop x", "drop 1/2", "drop 1.0", "drop \u0661", "drop\n0",
    "drop 0\n", "Drop 0",
    "drop " + "9" * 401, "drop " + "9" * 5000, "turn", "turn ", "turn 00", "turn 1000", "turn 01", "turn -1",
    "turn  1", "turn 1 ",
    "turn one", "TURN 1", "undo ", " undo", "undo 1", "Undo", "UNDO", "undo\n", "redo ", "redo 1", "Redo",
    "sentence ", "sentence 1",
    "Sentence", "sentences", "who ", "who wins", "Who", "WHO", "who\n", "found ", "found 1", "Found", "paper ",
    "paper 1", "Paper",
    "reply", "reply ", "reply  ", "reply None", "reply none ", "reply none none", "reply none 1", "reply 1 none",
    "reply  1",
    "reply 1  2", "reply 1 ", "reply 2/4", "reply 1/1", "reply -0", "reply 01", "reply 1,2", "reply x",
    "reply (1, 2)", "reply\n1",
    "reply 1\n2", "reply 1/0", "reply 1.5", "reply " + NINES + "9", "reply 1 1/" + NINES + "9", "Reply 1",
    "reply +1", "reply 1/2/3",
    "solve", "Solve yes", "solves yes", "solve\nyes", " solve yes", "where", "Where x > 0", "where\nx > 0", "keep",
    "Keep own",
    "keep\nown", "keeps own", "at 0", "copy", "best 0 1", "log", "lots", "owners", "put;", "new es; who", "say who",
    "error Unfit",
)
# With or without a desk: what they tell.
WITHOUT = (
    ("solve yes", "yes"), ("solve no", "no"), ("solve each x some y x < y", "yes"), ("solve some y each x x < y", "no"),
    ("solve  each x\nx >= x ", "yes"), ("solve 1 > 0 and 2 > 3", "no"), ("solve x < 1", "error Unfit"),
    ("solve x - x < 1", "yes"),
    ("solve ", "error BadText"), ("solve  ", "error BadText"), ("solve yes yes", "error BadText"), ("solve X",
    "error BadText"),
    ("solve " + EIGHT + " yes", "yes"), ("solve " + EIGHT + " each i yes", "error TooMany"), ("solve each each yes",
    "error BadText"),
    ("solve " + EIGHT + " each i x > 0", "error Unfit"), ("solve some a some b " + rows_text(">", 17, " or "),
    "error TooMany"),
    ("where x < 0 or x > 1", "(-,0) (1,+)"), ("where x < 0 and x > 1", "none"), ("where x = x + 0", "error Unfit"),
    ("where some y (0 <= y and x = 2*y and y < 3)", "[0,6)"), ("where some y y > x", "(-,+)"), ("where x = 1/2",
    "[1/2,1/2]"),
    ("where x >= -7/3 and x <= 5/2", "[-7/3,5/2]"), ("where x > -7/3 and x < 5/2", "(-7/3,5/2)"), ("where x > 1",
    "(1,+)"),
    ("where x >= 1", "[1,+)"), ("where x < 1", "(-,1)"), ("where x <= 1", "(-,1]"), ("where x != 0", "(-,0) (0,+)"),
    ("where x < 0 or x = 1 or x > 2", "(-,0) [1,1] (2,+)"), ("where x > 0 and x <= 1 or 2 <= x and x < 3",
    "(0,1] [2,3)"),
    ("where  z > 0", "(0,+)"), ("where \nx > 0", "(0,+)"), ("where yes", "error Unfit"),
    ("where x > y", "error Unfit"), ("where ", "error BadText"), ("where x", "error BadText"), ("where none",
    "error BadText"),
    ("where " + EIGHT + " x > a", "error TooMany"), ("where " + " or ".join(f"x = {k}" for k in range(17)),
    "error TooMany"),
    ("where " + " or ".join(f"x = {k}" for k in range(16)), " ".join(f"[{k},{k}]" for k in range(16))),
    (f"where x > {NINES}", f"({NINES},+)"), (f"where x = 1/{NINES}", f"[1/{NINES},1/{NINES}]"),
    (f"where {NINES}*x < {'9' * 399}8", f"(-,{'9' * 399}8/{NINES})"),
    ("keep own", "yes"), ("keep own; theirs 2 5; own; wish 0 3 - 10; wish 2 3 1 -", "yes"),
    ("keep own; theirs 2 5; own; wish 1 3 7 7; wish 2 3 1 3", "no"), ("keep theirs 0 3; own; wish 0 2 4 4", "yes"),
    ("keep ", "error BadText"), ("keep  own", "error BadText"), ("keep own ", "error BadText"), ("keep own;own",
    "error BadText"),
    ("keep wish 0 1 1 -; own", "error BadText"), ("keep wish 0 1 1 -", "error BadPlan"), ("keep own; wish 0 2 1 -",
    "error BadPlan"),
    ("keep theirs 5 2", "error BadPlan"), ("keep " + "; ".join(["own"] * 9), "error BadPlan"),
    ("keep " + "; ".join(["theirs 1 2"] * 8), "error TooMany"), ("keep " + "; ".join(["own"] * 8), "yes"),
    ("keep own; " + "; ".join(f"wish 0 1 {k} -" for k in range(1, 17)), "error TooMany"),
)


class Spoken(Checks, unittest.TestCase):

    def hears(self, shell, *pairs):
        """Check that lines tell what is wanted; pairs of both."""
        for line, wanted in pairs:
            self.assertEqual(wanted, shell.say(line), line if isinstance(line, str) and len(line) < 200 else None)

    def now(self, shell):
        """Return what the desk of shell tells without a search."""
        twin = copy.deepcopy(shell)
        told = [twin.say(line) for line in ("sentence", "found")]
        while told[-1] not in ("error NothingToUndo", "no desk"):
            told += [twin.say("undo"), twin.say("sentence")][::-1]
        twin = copy.deepcopy(shell)
        while told[-1] not in ("error NothingToRedo", "no desk"):
            told += [twin.say("redo"), twin.say("sentence")][::-1]
        return told

    def test_as_told(self):
        shell = Shell()
        lines = (
            "who", "new es", "put -x1 + x2 > 0", "sentence", "found", "who", "found", "put x2 - x1 > 0", "drop 1",
            "turn 2", "who",
            "undo", "undo", "undo", "redo",
        )
        wanted = (
            "no desk", "version 0", "version 1", "es: -x1 + x2 > 0", "0", "some", "1", "error BadText",
            "error Unfit", "version 2",
            "each", "version 1", "version 0", "error NothingToUndo", "version 1",
        )
        self.hears(shell, *zip(lines, wanted))
        lines = ("solve x < 1", "reply none", "new ex", "drop 01", 5)
        self.hears(shell, *zip(lines, ("error Unfit", "error Unfit", "what", "what", "what")))

    def test_by_name(self):
        shell = Shell()
        self.assertEqual(["version 0", "s: never", "what"], [shell.say(line=line) for line in ("new s",
        "sentence", None)])

    def test_no_lines(self):
        for shell in (Shell(), self.catch()):
            before = self.now(shell)
            for line in NO_LINES + tuple(ODD_VALUES) + (b"who", ["who"], ("who",), Desk("es"),
            shell, "z" * 20000, "who " * 5000):
                self.hears(shell, (line, "what"))
            self.assertEqual(before, self.now(shell))

    def catch(self):
        shell = Shell()
        self.hears(shell, ("new es", "version 0"), ("put -x1 + x2 > 0", "version 1"))
        return shell

    def test_no_desk_for_just_these_lines(self):
        shell = Shell()
        for line in OF_A_DESK:
            self.hears(shell, (line, "no desk"))
        self.hears(shell, *WITHOUT)
        self.hears(shell, ("new", "version 0"), ("sentence", ": never"))
        for line in OF_A_DESK:
            told = self.catch().say(line)
            self.assertIsInstance(told, str)
            self.assertNotIn(told, ("no desk", "what"))

    def test_solve_where_and_keep_with_a_desk(self):
        shell = self.catch()
        before = self.now(shell)
        self.hears(shell, *WITHOUT)
        self.assertEqual(before, self.now(shell))

    def test_new(self):
        shell = Shell()
        for owners in ("e", "s", "es", "eeeeeeee", "sesesese"):
            self.hears(shell, (f"new {owners}", "version 0"), ("sentence", f"{owners}: never"), ("found", "0"),
            ("undo", "error NothingToUndo"))
        self.hears(shell, ("who", "each"), ("found", "1"), ("new", "version 0"), ("sentence", ": never"), ("found",
        "0"))
        self.hears(shell, ("put always", "version 1"), ("who", "some"), ("new e", "version 0"), ("redo",
        "error NothingToRedo"))
        # What is no line leaves the desk as it is.
        self.hears(shell, ("put x1 > 0", "version 1"), ("new eeeeeeeee", "what"), ("sentence", "e: x1 > 0"))

    def test_put(self):
        shell = Shell()
        self.hears(shell, ("new es", "version 0"))
        for text in (
            "", " ", "x3 > 0", "x2 - x1 > 0", "x1 > 0 & x1 > 0", " x1 > 0", "x1 > 0 ", "x1 >0", "2*x1 > 0",
            "always ", "never", "x1 > 0 | x2 > 0",
            "es: x1 > 0", "x1 > 0\n", "y > 0", "put x1 > 0", "x1 > 1",
            " & ".join(f"x1 + {k} > 0" for k in range(1, 18)),
            f"x1 + {NINES}9 > 0", "x1 = 0", "x1 < 0",
        ):
            self.hears(shell, (f"put {text}", "error BadText"), ("sentence", "es: never"), ("undo",
            "error NothingToUndo"))
        for place, text in enumerate(("x1 > 0", "always", "-x1 + 2*x2 - 3 >= 0 & 0 >= 0",
        "x1 > 0", f"x1 + {NINES} > 0")):
            self.hears(shell, (f"put {text}", f"version {place + 1}"))
        text = f"es: x1 > 0 | always | -x1 + 2*x2 - 3 >= 0 & 0 >= 0 | x1 > 0 | x1 + {NINES} > 0"
        self.hears(shell, ("sentence", text))
        for place in range(5, 16):
            self.hears(shell, ("put x2 > 0", f"version {place + 1}"))
        self.hears(shell, ("put x2 > 0", "error TooMany"), ("put x3 > 0", "error BadText"), ("redo",
        "error NothingToRedo"))
        self.assertEqual(16, len(read_sentence(shell.say("sentence"))[1]))

    def test_drop_turn_undo_and_redo(self):
        shell = Shell()
        self.hears(
            shell, ("new ese", "version 0"), ("drop 0", "error Unfit"), ("turn 0", "error Unfit"), ("turn 4",
            "error Unfit"),
            ("turn 999", "error Unfit"), ("put x1 > 0", "version 1"), ("put x2 > 0", "version 2"), ("put x3 > 0",
            "version 3"),
            ("drop 1", "version 4"), ("sentence", "ese: x1 > 0 | x3 > 0"), ("drop 2", "error Unfit"), ("drop 999",
            "error Unfit"),
            ("turn 3", "version 5"), ("turn 1", "version 6"), ("sentence", "sss: x1 > 0 | x3 > 0"), ("undo",
            "version 5"),
            ("undo", "version 4"), ("sentence", "ese: x1 > 0 | x3 > 0"), ("redo", "version 5"), ("drop 0", "version 6"),
            ("redo", "error NothingToRedo"), ("sentence", "ess: x3 > 0"), ("undo", "version 5"), ("undo", "version 4"),
            ("undo", "version 3"), ("undo", "version 2"), ("undo", "version 1"), ("undo", "version 0"), ("undo",
            "error NothingToUndo"),
            ("sentence", "ese: never"),
        )
        for version in range(1, 7):
            self.hears(shell, ("redo", f"version {version}"))
        self.hears(shell, ("redo", "error NothingToRedo"), ("sentence", "ess: x3 > 0"))

    def test_forty_edits(self):
        shell = Shell()
        self.hears(shell, ("new s", "version 0"))
        for version in range(1, 41):
            self.hears(shell, ("turn 1", f"version {version}"))
        for line, wanted in (
            ("turn 1", "error TooManyEdits"), ("put x1 > 0", "error TooManyEdits"), ("drop 0", "error Unfit"),
            ("turn 2", "error Unfit"),
            ("put x2 > 0", "error BadText"), ("undo", "version 39"), ("put x1 > 0", "version 40"), ("drop 0",
            "error TooManyEdits"),
        ):
            self.hears(shell, (line, wanted))

    def test_who_found_paper_and_reply(self):
        shell = self.catch()
        self.hears(shell, ("found", "0"))
        paper = read_paper(shell.say("paper"))
        sentence = read_sentence(shell.say("sentence"))
        self.assertIsNone(paper_error(sentence, paper))
        self.hears(shell, ("found", "1"), ("who", "some"), ("found", "1"))
        desk = Desk("es")
        desk.put(sentence[1][0])
        for number in ("0", "7/2", "-5", str(OF_400), f"-1/{NINES}"):
            told = shell.say(f"reply {number}")
            a, _, b = number.partition("/")
            self.assertEqual(fraction_text(desk.reply(((int(a), int(b or 1)),))), told)
        self.hears(
            shell, ("reply none", "error Unfit"), ("reply 1 2", "error Unfit"), ("reply 1 2 3", "error Unfit"),
            ("reply " + " ".join(["1"] * 500), "error Unfit"), ("found", "1"), ("turn 2", "version 2"), ("found", "1"),
        )
        # An error, but a paper was found.
        self.hears(shell, ("reply 1 2", "error Unfit"), ("found", "2"), ("who", "each"), ("found", "2"), ("undo",
        "version 1"))
        self.hears(shell, ("reply 1 2 3", "error Unfit"), ("found", "2"), ("who", "some"), ("found", "3"))

    def test_reply_none(self):
        shell = Shell()
        self.hears(shell, ("new s", "version 0"), ("put x1 - 3 >= 0 & -x1 + 3 >= 0", "version 1"), ("reply none", "3"))
        self.hears(shell, ("new s", "version 0"), ("put 3*x1 - 2 >= 0 & -3*x1 + 2 >= 0", "version 1"),
        ("reply none", "2/3"))
        self.hears(shell, ("reply 1", "error Unfit"), ("new", "version 0"), ("reply none", "error Unfit"))

    def test_great(self):
        of_401 = OF_400 * 10 + 9
        # SOME has to name just the double of x1; and just the number that two great ones tell.
        shell = Shell()
        self.hears(shell, ("new es", "version 0"), ("put 2*x1 - x2 >= 0 & -2*x1 + x2 >= 0", "version 1"))
        self.hears(shell, ("reply 5/3", "10/3"), (f"reply {NINES}", "great"), (f"reply 1/{NINES}", f"2/{NINES}"))
        self.hears(shell, (f"reply {'4' * 400}", "8" * 400), (f"reply 5{'0' * 399}", "great"))
        self.assertNotEqual("great", shell.say("paper"))
        text = f"{NINES}*x1 - 7*x2 - 1 >= 0 & -{NINES}*x1 + 7*x2 + 1 >= 0 & {NINES}*x2 - {OF_400} >= 0"
        self.hears(shell, ("new ss", "version 0"), (f"put {text}", "version 1"), ("who", "some"))
        told = shell.say("paper")
        if told != "great":
            self.assertTrue(all(len(word) <= 801 for word in told.split()))
        # A form with such an integer, and one without.
        desk = "answerlines.desks.find"
        for number, wanted in (((of_401, 1), "great"), ((-of_401, 7), "great"), ((7, of_401), "great"), ((OF_400, 7),
        None)):
            with mock.patch(desk, return_value=("yes", (("lot", 0), ("answer", 0, (number,))))):
                self.hears(shell, ("new s", "version 0"), ("put always", "version 1"))
                text = f"yes: lot 0; answer 0, {OF_400}/7" if wanted is None else wanted
                self.hears(shell, ("paper", text), ("reply none", f"{OF_400}/7" if wanted is None else wanted),
                ("found", "1"))
        self.assertEqual(401, len(str(of_401)))

    def test_great_in_where(self):
        shell = Shell()
        twice = f"{NINES}*y = {NINES[:-1]}7*x and {NINES}*z = {NINES[:-1]}7*y and"
        told = shell.say(f"where some y some z ({twice} z > 1 and x < 3)")
        self.assertEqual("(great,3)", told)
        self.hears(shell, (f"where some y some z ({twice} z >= 1 and z <= 1)", "[great,great]"))
        self.hears(shell, (f"where some y some z ({twice} z < 1)", "(-,great)"))
        self.hears(shell, (f"where some y some z ({twice} (z <= -1 or x > 2))", "(-,great] (2,+)"))
        self.hears(shell, (f"where x < {NINES} and x > 0", f"(0,{NINES})"))

    def test_errors_of_the_search(self):
        shell = self.catch()
        before = self.now(shell)
        with mock.patch("answerlines.desks.find", side_effect=TooMany(4000)):
            for line in ("who", "paper", "reply 1", "reply none"):
                self.hears(shell, (line, "error TooMany"))
        self.assertEqual(before, self.now(shell))

    def test_an_error_changes_nothing(self):
        shell = self.catch()
        self.hears(shell, ("put x1 > 0", "version 2"), ("undo", "version 1"))
        before = self.now(shell)
        for line in ("put x3 > 0", "put", "put ", "drop 1", "turn 3", "turn 0", "new x", "solve x > 0", "where yes",
        "keep theirs 5 2"):
            self.assertIn(shell.say(line), ("error BadText", "error Unfit", "error BadPlan", "what"))
            self.assertEqual(before, self.now(shell))

    def test_two_shells(self):
        one, other = self.catch(), Shell()
        self.hears(other, ("who", "no desk"), ("new s", "version 0"))
        self.hears(one, ("sentence", "es: -x1 + x2 > 0"))


if __name__ == "__main__":
    unittest.main()
