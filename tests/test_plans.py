"""[J1], [J2]: plans, what is wrong with values that are none, their texts, and what comes of them."""

import random
import unittest
from fractions import Fraction

from answerlines.errors import BadPlan, BadText
from answerlines.plans import outcome, plan_error, plan_text, read_plan
from tests.drawing import HARD, drawn_fraction
from tests.helping import ODD_VALUES, OF_400, OF_401, OF_5001, Checks, asked, same
from tests.someplans import (
    FIVE, FOUR, HALF, KNOWN, LATE, ONE, OWN, PAINT, SHARP, SIX, TEN, THREE, TWO, ZERO, drawn_plan,
)

THEIRS = ("theirs", TWO, FIVE)
WISH = (0, 1, TWO, None)
GREAT = ("theirs", (1, OF_400), (OF_400, 1))
SIXTEEN = tuple((0, 1, (k, 1), None) for k in range(16))
TEXTS = [
    ("own", ((OWN,), ())), ("own; own", ((OWN, OWN), ())), ("theirs 0 7/2", ((("theirs", ZERO, (7, 2)),), ())),
    ("theirs 2 2", ((("theirs", TWO, TWO),), ())), ("own; theirs 2 5; own; wish 0 3 - 10; wish 2 3 1 -", PAINT),
    ("own; theirs 2 5; own; wish 1 3 7 7; wish 2 3 1 3", SHARP), ("theirs 0 3; own; wish 0 2 4 4", LATE),
    ("own; wish 0 1 0 -", ((OWN,), ((0, 1, ZERO, None),))), ("own; wish 0 1 - 0", ((OWN,), ((0, 1, None, ZERO),))),
    ("own; wish 0 1 1/3 1/2", ((OWN,), ((0, 1, (1, 3), HALF),))),
    ("; ".join(["own"] * 8), ((OWN,) * 8, ())), ("; ".join(["theirs 2 5"] * 8) + "; wish 7 8 2 -", (
        (THEIRS,) * 8, ((7, 8, TWO, None),),
    )),
    ("own; wish 0 1 2 -; wish 0 1 - 2; wish 0 1 2 2", ((OWN,), (WISH, (0, 1, None, TWO), (0, 1, TWO, TWO)))),
]


class PlanError(Checks, unittest.TestCase):

    def test_plans(self):
        for plan in [plan for plan, _ in KNOWN] + [plan for _, plan in TEXTS]:
            self.tells(None, plan_error, plan)
        self.tells(None, plan_error, ((OWN,) * 8, SIXTEEN))
        self.tells(None, plan_error, ((GREAT,), ((0, 1, (1, OF_400), (OF_400, 1)),)))
        self.tells(None, plan_error, ((("theirs", HALF, HALF),), ((0, 1, HALF, HALF), (0, 1, HALF, None))))
        drawn = random.Random(110)
        for _ in range(100):
            self.tells(None, plan_error, drawn_plan(drawn, drawn.randint(1, 8), 12, 9))

    def test_form(self):
        for value in (
            None, (), (PAINT[0],), PAINT + ((),), list(PAINT), (list(PAINT[0]), PAINT[1]), (PAINT[0], list(PAINT[1])),
            ((), ()), ((), PAINT[1]), ((OWN,) * 9, ()), ((OWN,), SIXTEEN + ((0, 1, None, ONE),)), (OWN, OWN, OWN),
            (None, ()), ((OWN,), None), ("own", ()), ((OWN,), "wish"), ({}, ()), ((OWN,), {}), ((OWN,), 0),
            "own", 0, True,
            ((None,) * 9, ()), ((), (None,)), ([OWN], [WISH]), ((OWN,), ((),) * 17),
        ):
            self.tells("form", plan_error, value)

    def test_events(self):
        for event in (
            None, (), [], "own", ["own"], ("own", ONE), ("own", ()), ("own", ZERO, ONE), ("Own",), ("ours",), ("",),
            (None,),
            (True,), (0,), ("theirs",), ("theirs", TWO), ("theirs", TWO, FIVE, FIVE),
            ["theirs", TWO, FIVE], ("their", TWO, FIVE),
            ("own", TWO, FIVE), ("wish", TWO, FIVE), (None, TWO, FIVE), (["theirs"], TWO, FIVE), (TWO, FIVE, "theirs"),
            # Bounds that are no fractions.
            ("theirs", 2, FIVE), ("theirs", TWO, 5), ("theirs", True, FIVE), ("theirs", [2, 1], FIVE),
            ("theirs", TWO, [5, 1]),
            ("theirs", (2, 4), FIVE), ("theirs", TWO, (10, 2)), ("theirs", (True, 1), FIVE), ("theirs", TWO, (5, True)),
            ("theirs", (1, 0), FIVE), ("theirs", (0, 2), FIVE), ("theirs", TWO, (5, -1)), ("theirs", "2", "5"),
            ("theirs", None, FIVE), ("theirs", TWO, None), ("theirs", None, None), ("theirs", (2,), FIVE),
            # Low below 0, high below low.
            ("theirs", (-1, 2), FIVE), ("theirs", (-5, 1), (-2, 1)), ("theirs", FIVE, TWO), ("theirs", HALF, (1, 3)),
            ("theirs", ZERO, (-1, 1)), ("theirs", (OF_400, 1), (OF_400 - 1, 1)),
        ):
            self.tells(("event", 0), plan_error, ((event,), ()))
            self.tells(("event", 2), plan_error, ((OWN, THEIRS, event, OWN), ()))
            self.tells(("event", 1), plan_error, ((OWN, event, event), (None,)))
            self.tells(("event", 7), plan_error, ((OWN,) * 7 + (event,), PAINT[1]))

    def test_wishes(self):
        for wish in (
            None, (), [], "wish", 0, (0, 1), (0, 1, TWO), (0, 1, TWO, None, None), ["0",
            "1", TWO, None], [0, 1, TWO, None],
            # i and j out of their order, and beyond.
            (1, 1, TWO, None), (2, 1, TWO, None), (-1, 1, TWO, None), (0, 0, TWO, None), (0, 4, TWO, None),
            (3, 4, TWO, None),
            (3, 3, TWO, None), (-2, -1, TWO, None), (0, OF_400, TWO, None), (OF_400, OF_401, TWO, None),
            (-OF_400, 1, TWO, None),
            # No integers.
            (False, 1, TWO, None), (0, True, TWO, None), (ZERO, ONE, TWO, None), (None, 1, TWO, None),
            (0, None, TWO, None),
            ("0", "1", TWO, None), ([], {}, TWO, None),
            # No bounds.
            (0, 1, None, None), (0, 1, 2, None), (0, 1, TWO, 3), (0, 1, (2, 4), None), (0, 1, None, (2, 4)),
            (0, 1, [2, 1], None),
            (0, 1, None, [2, 1]), (0, 1, True, None), (0, 1, None, False), (0, 1, "-", TWO), (0, 1, TWO, "-"),
            (0, 1, (), None),
            (0, 1, (1, True), None), (0, 1, None, (1, 0)),
            # Below 0, or the other way about.
            (0, 1, (-1, 2), None), (0, 1, None, (-1, 2)), (0, 1, (-1, 1), TWO), (0, 1, FIVE, TWO), (0, 1, HALF, (1, 3)),
        ):
            self.tells(("wish", 0), plan_error, (PAINT[0], (wish,)))
            self.tells(("wish", 2), plan_error, (PAINT[0], PAINT[1] + (wish, wish)))
            self.tells(("wish", 1), plan_error, (PAINT[0], (WISH, wish, WISH)))

    def test_a_wish_told_twice(self):
        self.tells(("wish", 1), plan_error, ((OWN,), (WISH, WISH)))
        self.tells(("wish", 3), plan_error, ((OWN, OWN), (WISH, (0, 2, TWO, None), (1, 2, TWO, None),
        WISH, (0, 1, None, None))))
        self.tells(("wish", 15), plan_error, ((OWN,), SIXTEEN[:15] + SIXTEEN[:1]))
        # They say the same, but are unlike.
        self.tells(None, plan_error, ((OWN,), (WISH, (0, 1, ONE, None), (0, 1, TWO, TEN), (0, 1, None, TEN))))
        # What comes first is told.
        self.tells(("wish", 1), plan_error, ((OWN,), (WISH, WISH, None)))
        self.tells(("wish", 1), plan_error, ((OWN,), (WISH, None, WISH)))

    def test_values_of_all_kinds(self):
        for value in ODD_VALUES:
            self.assertEqual("form", asked(plan_error, value))
            self.tells(("event", 0), plan_error, ((value,), ()))
            self.tells(("event", 1), plan_error, ((OWN, ("theirs", value, FIVE)), (value,)))
            self.tells(("wish", 0), plan_error, ((OWN,), (value,)))
            self.tells(("wish", 0), plan_error, ((OWN,), ((0, 1, TWO, (value,)),)))
            if value is not None:
                self.tells(("wish", 0), plan_error, ((OWN,), ((0, 1, value, None),)))
                self.tells(("wish", 0), plan_error, ((OWN,), ((0, 1, TWO, value),)))
            if not same(value, 0):
                self.tells(("wish", 0), plan_error, ((OWN,), ((value, 1, TWO, None),)))
            if not same(value, 1):
                self.tells(("wish", 0), plan_error, ((OWN,), ((0, value, TWO, None),)))


class Texts(Checks, unittest.TestCase):

    def test_there_and_back(self):
        for text, plan in TEXTS:
            self.tells(text, plan_text, plan)
            self.tells(plan, read_plan, text)
        drawn = random.Random(111)
        told = {}
        for _ in range(150):
            plan = drawn_plan(drawn, drawn.randint(1, 8), 9, 30)
            text = asked(plan_text, plan)
            self.tells(plan, read_plan, text)
            self.assertEqual(plan, told.setdefault(text, plan))

    def test_400_figures_and_401(self):
        great = ((GREAT, OWN), ((0, 2, (HARD, OF_400), None), (1, 2, None, (OF_400, HARD))))
        self.tells(great, read_plan, asked(plan_text, great))
        for number in (str(OF_401), f"1/{OF_401}", f"{OF_401}/7", "9" * 5000):
            for text in (
                f"theirs 0 {number}", f"theirs {number} {number}", f"own; wish 0 1 {number} -",
                f"own; wish 0 1 - {number}",
                f"own; wish {number} 1 1 -", f"own; wish 0 {number} 1 -",
            ):
                self.refuses(BadText, read_plan, text)
        self.raises_just(BadPlan(("wish", 0)), read_plan, f"own; wish 0 {OF_400} 1 -")
        self.raises_just(BadPlan(("wish", 0)), read_plan, f"own; wish -{OF_400} 1 1 -")

    def test_bad_texts(self):
        for text in (
            # Nothing, or pieces more, fewer, exchanged.
            "", " ", "; ", "own; ", "; own", "own; ; own", "own own", "own 1", "own 2 5", "theirs", "theirs 2",
            "theirs 2 5 7",
            "theirs 2 5 own", "2 5", "2 theirs 5", "wish", "own; wish 0", "own; wish 0 1", "own; wish 0 1 2",
            "own; wish 0 1 2 3 4",
            "own; wish 0 1 -", "own; wish 0 1 - - -", "own; wish - 1 2 3", "own; wish 0 - 2 3", "own; 0 1 2 3",
            "theirs 2 -",
            "theirs - 5", "theirs - -", "own; theirs wish 0 1 2 -",
            # Wishes ahead of events.
            "wish 0 1 1 -; own", "own; wish 0 1 1 -; own", "wish 0 1 1 -; theirs 2 5; wish 0 1 1 -",
            # Other words.
            "ours", "Own", "OWN", "their 2 5", "Theirs 2 5", "own; Wish 0 1 1 -", "own; wishes 0 1 1 -",
            "own; hope", "none",
            "own, own", "own: own", "own. own", "own and own",
            # Other blanks.
            " own", "own ", "own;own", "own;  own", "own ; own", "own;\nown", "own\n", "\nown", "own;\town",
            "theirs  2 5",
            "theirs 2  5", "theirs 2 5 ", "theirs\n2 5", "own; wish  0 1 2 -", "own; wish 0 1 2 - ",
            "own; wish 0 1  2 -",
            "own; wish 0 1 2 -;", "own;", ";own", "own;; own",
            # Integers and fractions that are not written so.
            "theirs 02 5", "theirs 2 05", "theirs 0 00", "theirs -0 5", "theirs 2 +5", "theirs 2/4 5",
            "theirs 2 10/2", "theirs 2 5/1",
            "theirs 0/3 5", "theirs 1/0 5", "theirs 1/ 5", "theirs 1/-2 5", "theirs 1.5 5", "theirs two five",
            "theirs x 5",
            "own; wish 00 1 2 -", "own; wish 0 01 2 -", "own; wish -0 1 2 -", "own; wish 0 1/1 2 -",
            "own; wish 0/1 1 2 -",
            "own; wish 0 1 02 -", "own; wish 0 1 - -0", "own; wish 0 1 2/4 -", "own; wish 0 1 -- 2",
            "own; wish 0 1 2 --",
            "own; wish +0 1 2 -", "own; wish 0 1 \u0662 -", "own; wish 0 1.0 2 -",
        ):
            self.refuses(BadText, read_plan, text)

    def test_written_so_but_no_plan(self):
        for text, error in (
            ("own; wish 0 2 1 -", ("wish", 0)), ("wish 0 1 1 -", "form"), ("; ".join(["own"] * 9), "form"),
            ("own; " + "; ".join(f"wish 0 1 {k} -" for k in range(17)), "form"), ("wish 0 1 1 -; wish 0 1 1 -", "form"),
            ("theirs 5 2", ("event", 0)), ("own; theirs -1 2", ("event", 1)), ("theirs -2 -1; own", ("event", 0)),
            ("own; wish 0 1 - -", ("wish", 0)), ("own; wish 0 1 -1 -", ("wish", 0)),
            ("own; wish 0 1 - -1/2", ("wish", 0)),
            ("own; wish 0 1 5 2", ("wish", 0)), ("own; wish 1 1 1 -", ("wish", 0)), ("own; wish 1 0 1 -", ("wish", 0)),
            ("own; wish -1 1 1 -", ("wish", 0)), ("own; wish 0 -1 1 -", ("wish", 0)),
            ("own; wish 0 1 1 -; wish 0 1 1 -", ("wish", 1)),
            ("own; own; wish 0 1 1 -; wish 1 2 - 1; wish 0 1 1 -", ("wish", 2)),
            ("theirs 5 2; wish 0 9 - -", ("event", 0)),
            ("own; wish 0 1 1 -; wish 0 9 - -", ("wish", 1)),
        ):
            self.raises_just(BadPlan(error), read_plan, text)

    def test_values_that_are_no_strings(self):
        for value in ODD_VALUES + [PAINT, OF_5001, b"own", ["own"], OWN]:
            self.refuses(BadText, read_plan, value)

    def test_a_sign_changed_in_right_texts(self):
        for text, plan in TEXTS:
            for spot in range(len(text)):
                ahead, behind = text[:spot], text[spot:]
                for bad in (ahead + behind[1:], ahead + "!" + behind, ahead + " " + behind):
                    try:
                        told = asked(read_plan, bad)
                    except (BadText, BadPlan):
                        continue
                    self.assertNotIn("!", bad)
                    self.assertEqual(bad, plan_text(told))
                    self.assertNotEqual(plan, told)


class Outcome(Checks, unittest.TestCase):

    def test_as_told(self):
        for second, third, wanted in ((FIVE, SIX, "kept"), (FIVE, (11, 2), "broken"), (SIX, ONE, "theirs"),
        (TWO, ONE, "broken")):
            self.tells(wanted, outcome, PAINT, (ZERO, second, third))

    def test_borders_of_theirs(self):
        for at, wanted in ((TWO, "kept"), (FIVE, "kept"), ((7, 2), "kept"), ((19, 10), "theirs"), ((51, 10), "theirs"),
        (ZERO, "theirs"), ((-2, 1), "theirs"), ((OF_400, 1), "theirs")):
            self.tells(wanted, outcome, ((THEIRS,), ()), (at,))
            behind = (at[0] + 3 * at[1], at[1])
            self.tells(wanted, outcome, ((OWN, THEIRS), ()), (THREE, behind))
        self.tells("kept", outcome, ((("theirs", TWO, TWO),), ()), (TWO,))
        self.tells("theirs", outcome, ((("theirs", ZERO, ONE),), ()), ((-1, OF_400),))
        self.tells("kept", outcome, ((("theirs", ZERO, ONE), ("theirs", ZERO, ONE)), ()), (ONE, ONE))

    def test_borders_of_ours(self):
        for at, wanted in ((ZERO, "kept"), (TEN, "kept"), ((-1, 9), "broken"), ((-1, OF_400), "broken")):
            self.tells(wanted, outcome, ((OWN,), ()), (at,))
        self.tells("kept", outcome, ((OWN, OWN), ()), (THREE, THREE))
        self.tells("broken", outcome, ((OWN, OWN), ()), (THREE, TWO))

    def test_borders_of_wishes(self):
        for span, wanted in ((TWO, "kept"), (FOUR, "kept"), (THREE, "kept"), ((199, 100), "broken"), ((401, 100),
        "broken")):
            self.tells(wanted, outcome, ((OWN,), ((0, 1, TWO, FOUR),)), (span,))
            times = (FIVE, (span[0] + 5 * span[1], span[1]), TEN)
            self.tells(wanted, outcome, ((OWN, OWN, OWN), ((1, 2, TWO, None), (1, 2, None, FOUR))), times)

    def test_theirs_also_where_ours_is_broken(self):
        plan = ((OWN, THEIRS, OWN), ((0, 1, ONE, None), (0, 3, None, ONE)))
        self.tells("theirs", outcome, plan, ((-1, 1), (-1, 1), (-2, 1)))
        self.tells("theirs", outcome, plan, (ZERO, TEN, ONE))
        self.tells("broken", outcome, plan, (ZERO, THREE, FOUR))
        # Of theirs, the last one.
        self.tells("theirs", outcome, ((OWN, OWN, THEIRS), ((0, 1, TEN, None),)), (FIVE, ONE, TEN))

    def test_in_another_way(self):
        drawn = random.Random(112)
        told = []
        for _ in range(400):
            events, wishes = plan = drawn_plan(drawn, drawn.randint(1, 4), drawn.randint(0, 3), 4)
            times, at = [], Fraction(0)
            for _ in events:
                at += Fraction(*drawn_fraction(drawn)) / 3 + drawn.choice((0, 1, 2))
                times.append((at.numerator, at.denominator))
            spans = [Fraction(*b) - Fraction(*a) for a, b in zip([ZERO] + times, times)]
            worths = [Fraction(0)] + [Fraction(*own) for own in times]
            wanted = "kept"
            if any(span < 0 for span, event in zip(spans, events) if event == OWN):
                wanted = "broken"
            for i, j, low, high in wishes:
                if low and worths[j] - worths[i] < Fraction(*low) or high and worths[j] - worths[i] > Fraction(*high):
                    wanted = "broken"
            for span, event in zip(spans, events):
                if event != OWN and not Fraction(*event[1]) <= span <= Fraction(*event[2]):
                    wanted = "theirs"
            self.tells(wanted, outcome, plan, tuple(times))
            told.append(wanted)
        self.assertTrue(all(told.count(word) > 30 for word in ("kept", "broken", "theirs")))


if __name__ == "__main__":
    unittest.main()
