"""[A2] and what holds over the whole program: all parts tell one thing of a sentence; README's examples."""

import doctest
import pathlib
import random
import unittest
from fractions import Fraction

from answerlines.bests import best_sure, parting, with_least
from answerlines.bounds import MAX_LOTS, MAX_ROWS
from answerlines.compiling import compiled, formula_reply, formula_solved
from answerlines.desks import desk_behind
from answerlines.formulas import formula_error
from answerlines.formulatexts import formula_text, read_formula
from answerlines.fractions import fraction_text
from answerlines.papers import HOLDERS, claims_of, paper_error, trimmed
from answerlines.papertexts import paper_text, read_paper
from answerlines.plays import rest, result
from answerlines.replies import followed, reply, why
from answerlines.rows import holds
from answerlines.search import core, decided, find, winner
from answerlines.sentences import owner_of
from answerlines.sentencetexts import lot_text, read_sentence, sentence_text
from answerlines.shells import Shell
from answerlines.stretches import firsts, greatest, in_stretches, simplest, stretches
from answerlines.sums import follows, slim
from answerlines.tables import table_of, table_reply
from answerlines.truths import holds_in
from tests.deciding import who_wins
from tests.drawing import drawn_fraction, drawn_sentence
from tests.meaning import means
from tests.test_stretches import probes, within

README = pathlib.Path(__file__).resolve().parent.parent / "README.md"
WORDS = {"e": "each", "s": "some"}
HAND = [
    ("", ()), ("", ((),)), ("es", ((("gt", (0, -1, 1)),),)), ("se", ((("gt", (0, -1, 1)),),)),
    ("e", ((("ge", (0, 1)),), (("ge", (0, -1)),))), ("es", ((("ge", (0, -1, 1)), ("ge", (0, 1, -1))),)),
    ("ses", ((("ge", (0, -1, 1, 0)), ("gt", (0, 0, -1, 1)), ("ge", (4, 0, 2, -1))), (("gt", (0, 1, -1, 0)),))),
]


def several(word, formulas):
    """Return the formula of these joined by word."""
    return formulas[0] if len(formulas) == 1 else (word, tuple(formulas))


def matrix_of(sentence):
    """Return the formula that tells that SOME has won the whole play, the unknowns being x1, x2 and so on."""
    lots = []
    for lot in sentence[1]:
        rows = []
        for word, numbers in lot:
            parts = tuple((f"x{k}", (number, 1)) for k, number in enumerate(numbers) if k and number)
            rows.append((word, (parts, (numbers[0], 1))))
        lots.append(several("and", rows))
    return several("or", lots)


def formula_of(sentence, first=1):
    """Return the formula that tells that SOME wins, the unknowns ahead of first being free."""
    formula = matrix_of(sentence)
    for k in range(len(sentence[0]), first - 1, -1):
        formula = (WORDS[sentence[0][k - 1]], f"x{k}", formula)
    return formula


class Whole(unittest.TestCase):

    def sentences(self):
        drawn = random.Random(140)
        made = [
            drawn_sentence(drawn, drawn.choice((1, 2, 2, 3)), drawn.randint(1, 3), 2, 3, drawn.choice((0.2, 0.5)))
            for _ in range(50)
        ]
        return [(drawn, sentence) for sentence in HAND + made]

    def test_one_thing_is_told(self):
        sides = []
        for drawn, sentence in self.sentences():
            with self.subTest(sentence=sentence):
                who = decided(sentence)
                sides.append(who)
                self.assertEqual(who, who_wins(sentence))
                self.assertEqual(who, winner(sentence, ()))
                self.of_papers(drawn, sentence, who)
                self.of_less(drawn, sentence, who)
                self.of_formulas(drawn, sentence, who)
                self.of_values(drawn, sentence, who)
                self.of_desks(drawn, sentence, who)
        self.assertTrue(min(sides.count("some"), sides.count("each")) > 12)

    def of_papers(self, drawn, sentence, who):
        paper = find(read_sentence(sentence_text(sentence)))
        self.assertEqual(who, HOLDERS[paper[0]])
        for told in (paper, read_paper(paper_text(paper)), trimmed(sentence, paper)):
            self.assertIsNone(paper_error(sentence, told))
            self.assertEqual((0, ()), claims_of(sentence, told)[-1])
        table, claims = table_of(sentence, paper), claims_of(sentence, paper)
        for _ in range(4):
            others = tuple(drawn_fraction(drawn) for own in sentence[0] if WORDS[own] != who)
            play = followed(sentence, paper, others)
            self.assertEqual(who, result(sentence, play))
            for k in range(len(play)):
                ahead = play[:k]
                self.assertEqual(who, winner(sentence, ahead))
                self.assertEqual(who, decided(rest(sentence, ahead)))
                if owner_of(sentence, k + 1) == who:
                    self.assertEqual(play[k], reply(sentence, paper, ahead))
                    self.assertEqual(play[k], table_reply(table, ahead))
                    level, claim = claims[why(sentence, paper, ahead)]
                    self.assertEqual(k, level)
                    self.assertTrue(all(holds(row, ahead) for row in claim))

    def of_less(self, drawn, sentence, who):
        owners, lots = sentence
        n = len(owners)
        small = slim(sentence)
        self.assertEqual(who, decided(small))
        for _ in range(5):
            play = tuple(drawn_fraction(drawn) for _ in owners)
            self.assertEqual(result(sentence, play), result(small, play))
            self.assertEqual(means(matrix_of(sentence), named(play)), result(small, play) == "some")
        side, places = core(sentence)
        self.assertEqual(who, side)
        if who == "some":
            left = tuple(lots[place] for place in places)
        else:
            left = tuple(
                tuple(row for spot, row in enumerate(lot) if (k, spot) in places) for k, lot in enumerate(lots)
            )
        self.assertEqual(who, decided((owners, left)))
        # If all unknowns are SOME's, some lot's rows can hold together.
        never = ("gt", (0,) * (n + 1))
        can = [lot for lot in lots if not follows(n, lot, never)]
        self.assertEqual("some" if can else "each", decided(("s" * n, lots)))

    def of_formulas(self, drawn, sentence, who):
        formula = formula_of(sentence)
        self.assertIsNone(formula_error(formula))
        again = read_formula(formula_text(formula))
        self.assertEqual(formula, again)
        made = compiled(again)[0]
        self.assertEqual((sentence[0], who), (made[0], decided(made)))
        self.assertLessEqual(len(made[1]), MAX_LOTS)
        held, paper = formula_solved(formula)
        self.assertEqual((who == "some", HOLDERS[paper[0]]), (held, who))
        self.assertEqual([held, not held], [holds_in(told, {}) for told in (formula, ("not", formula))])
        for _ in range(3):
            play = ()
            for own in sentence[0]:
                play += (formula_reply(formula, paper, play) if WORDS[own] == who else drawn_fraction(drawn),)
            self.assertEqual(who, result(sentence, play))
            self.assertEqual(held, holds_in(matrix_of(sentence), {f"x{k}": own for k, own in enumerate(play, 1)}))

    def of_values(self, drawn, sentence, who):
        owners, lots = sentence
        if not owners:
            return
        row = firsts(sentence)
        free = formula_of(sentence, 2)
        if any(numbers[1] for lot in lots for _, numbers in lot):
            self.assertEqual(row, stretches(free))
            other = ("and", (free, ("ge", ((("x1", (1, 1)),), (0, 1)))))
            told = parting(free, other)
            self.assertTrue(told is None or told[0] < 0)
            self.assertEqual(told, simplest(tuple(part for part in below_0(row))))
        self.assertEqual(row, firsts(slim(sentence)))
        for fraction in probes(row):
            wins = winner(sentence, (fraction,)) == "some"
            self.assertEqual([wins, wins], [in_stretches(row, fraction), within(row, fraction)])
        # Of the first unknown SOME is sure as far as SOME may name it.
        wins = row != () if owners[0] == "s" else row == ((None, False, None, False),)
        self.assertEqual(who == "some", wins)
        form = ((0, 1), (1, 1)) + ((0, 1),) * (len(owners) - 1)
        if all(len(lot) < MAX_ROWS for lot in lots):
            told = best_sure(sentence, form)
            self.assertEqual(greatest(row) if owners[0] == "s" else ("never",), told)
            if told[0] == "reached":
                self.assertEqual("some", decided(with_least(sentence, form, told[1])))

    def of_desks(self, drawn, sentence, who):
        owners, lots = sentence
        desk = desk_behind(owners, tuple(("put", (lot,)) for lot in lots))
        shell = Shell()
        lines = [f"new {owners}" if owners else "new"] + [f"put {lot_text(len(owners), lot)}" for lot in lots]
        self.assertEqual([f"version {k}" for k in range(len(lots) + 1)], [shell.say(line) for line in lines])
        self.assertEqual([sentence, sentence_text(sentence)], [desk.sentence, shell.say("sentence")])
        self.assertEqual([who, who], [desk.who(), shell.say("who")])
        self.assertEqual(find(sentence), desk.paper())
        self.assertEqual(paper_text(desk.paper()), shell.say("paper"))
        self.assertEqual("yes" if who == "some" else "no", shell.say(f"solve {formula_text(formula_of(sentence))}"))
        play = ()
        for k, own in enumerate(owners):
            text = " ".join(fraction_text(number) for number in play) or "none"
            if WORDS[own] == who:
                self.assertEqual(fraction_text(desk.reply(play)), shell.say(f"reply {text}"))
                play += (desk.reply(play),)
            else:
                self.assertEqual("error Unfit", shell.say(f"reply {text}"))
                play += (drawn_fraction(drawn),)
        self.assertEqual(who, result(sentence, play))
        self.assertEqual([1, "1"], [desk.found, shell.say("found")])
        form = tuple(drawn_fraction(drawn) for _ in range(len(owners) + 1))
        self.assertEqual(best_sure(sentence, form), desk.best(form))


def named(play):
    """Return the world of the unknowns x1, x2 and so on."""
    return {f"x{k}": Fraction(*own) for k, own in enumerate(play, 1)}


def below_0(row):
    """Return the stretches of row, as far as they are below 0."""
    for low, low_in, high, high_in in row:
        if low is None or low[0] < 0:
            beyond = high is None or high[0] >= 0
            yield (low, low_in) + (((0, 1), False) if beyond else (high, high_in))


class Readme(unittest.TestCase):

    def test_its_examples(self):
        told = doctest.testfile(str(README), module_relative=False)
        self.assertLess(8, told.attempted)
        self.assertEqual(0, told.failed)


if __name__ == "__main__":
    unittest.main()
