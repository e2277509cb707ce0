"""[J3] to [J5], and [A2] (e): whether plans can be kept, next times, and by how much."""

import random
import unittest
from fractions import Fraction

from answerlines.errors import TooMany, Unfit
from answerlines.papers import HOLDERS, paper_error
from answerlines.planning import (
    can_keep, first_times, least_span, longest, next_time, plan_paper, plan_sentence,
)
from answerlines.plans import outcome, plan_error
from answerlines.plays import result
from answerlines.replies import followed, reply
from answerlines.search import decided
from answerlines.sentences import owner_of, sentence_error
from answerlines.stretches import firsts, in_stretches, stretches_error
from tests.drawing import drawn_fraction
from tests.helping import ODD_VALUES, OF_400, Checks, asked, outcome_of
from tests.meaning import means
from tests.someplans import (
    FIVE, FOUR, HALF, KNOWN, LATE, ONE, OWN, PAINT, SEVEN, SHARP, SIX, TEN, THREE, TWO, ZERO, as_formula, as_step,
    drawn_plan,
)
from tests.test_stretches import probes, row

EIGHT_OWN, EIGHT_THEIRS = (OWN,) * 8, (("theirs", ONE, TWO),) * 8


def at_least(many, first=1):
    """Return as many wishes that make one row each."""
    return tuple((0, 1, (k, 1), None) for k in range(first, first + many))


# The first lot has sixteen rows, or seventeen; and seventeen lots.
SIXTEEN_ROWS, SEVENTEEN_ROWS = ((OWN,), at_least(15)), ((OWN,), at_least(16))
SEVENTEEN_LOTS = (EIGHT_THEIRS, ())
BOTH = (EIGHT_THEIRS, tuple((0, 1, (k, 1), (k + 1, 1)) for k in range(9)))


def plus(one, other):
    """Return the fraction one + other."""
    total = Fraction(*one) + Fraction(*other)
    return (total.numerator, total.denominator)


class Sentences(Checks, unittest.TestCase):

    def test_as_told(self):
        wanted = ("ses", (
            (("ge", (0, 1, 0, 0)), ("ge", (0, 0, -1, 1)), ("ge", (10, 0, 0, -1)), ("ge", (-1, 0, -1, 1))),
            (("gt", (2, 1, -1, 0)),), (("gt", (-5, -1, 1, 0)),),
        ))
        self.tells(wanted, plan_sentence, PAINT)

    def test_the_rows_in_their_order(self):
        for plan, wanted in (
            (((OWN,), ()), ("s", ((("ge", (0, 1)),),))),
            (((OWN, OWN), ()), ("ss", ((("ge", (0, 1, 0)), ("ge", (0, -1, 1))),))),
            (((("theirs", TWO, FIVE),), ()), ("e", ((), (("gt", (2, -1)),), (("gt", (-5, 1)),)))),
            (((("theirs", HALF, (7, 3)), ("theirs", ZERO, ZERO)), ()), ("ee", (
                (), (("gt", (1, -2, 0)),), (("gt", (-7, 3, 0)),), (("gt", (0, 1, -1)),), (("gt", (0, -1, 1)),),
            ))),
            (((OWN, OWN, OWN), ((1, 3, TWO, FIVE), (0, 2, None, HALF), (2, 3, (3, 4), None))), ("sss", ((
                ("ge", (0, 1, 0, 0)), ("ge", (0, -1, 1, 0)), ("ge", (0, 0, -1, 1)), ("ge", (-2, -1, 0, 1)),
                ("ge", (5, 1, 0, -1)), ("ge", (1, 0, -2, 0)), ("ge", (-3, 0, -4, 4)),
            ),))),
            (LATE, ("es", (
                (("ge", (0, -1, 1)), ("ge", (-4, 0, 1)), ("ge", (4, 0, -1))), (("gt", (0, -1, 0)),),
                (("gt", (-3, 1, 0)),),
            ))),
        ):
            self.assertIsNone(sentence_error(wanted))
            self.tells(wanted, plan_sentence, plan)

    def test_each_row_once(self):
        # A wish that says what is so in any case; wishes that say the same.
        self.tells(("s", ((("ge", (0, 1)), ("ge", (2, -1))),)), plan_sentence, ((OWN,), ((0, 1, ZERO, TWO),
        (0, 1, None, TWO))))
        wishes = ((1, 2, ONE, None), (0, 1, ONE, TWO), (1, 2, ONE, TWO), (0, 1, None, TWO))
        rows = (("ge", (0, 1, 0)), ("ge", (0, -1, 1)), ("ge", (-1, -1, 1)), ("ge", (-1, 1, 0)), ("ge", (2, -1, 0)),
        ("ge", (2, 1, -1)))
        self.tells(("ss", (rows,)), plan_sentence, ((OWN, OWN), wishes))
        # A wish ahead of a later event's row: that stands ahead of all wishes all the same.
        self.tells(("es", ((("ge", (0, -1, 1)),), (("gt", (1, -1, 0)),), (("gt", (-2, 1, 0)),))), plan_sentence,
            ((("theirs", ONE, TWO), OWN), ((1, 2, ZERO, None),)))

    def test_sixteen_rows_and_seventeen(self):
        self.assertEqual(16, len(asked(plan_sentence, SIXTEEN_ROWS)[1][0]))
        self.raises_just(TooMany(16), plan_sentence, SEVENTEEN_ROWS)
        twice = tuple((0, 1, (k, 1), (20, 1)) for k in range(1, 15))
        self.assertEqual(16, len(asked(plan_sentence, ((OWN,), twice))[1][0]))
        self.raises_just(TooMany(16), plan_sentence, ((OWN,), twice + ((0, 1, (15, 1), None),)))
        # "own" of eight events, and eight rows of wishes.
        self.assertEqual(16, len(asked(plan_sentence, (EIGHT_OWN, at_least(8)))[1][0]))
        self.raises_just(TooMany(16), plan_sentence, (EIGHT_OWN, at_least(9)))

    def test_many_events_of_theirs(self):
        self.assertEqual(15, len(asked(plan_sentence, (EIGHT_THEIRS[:7] + (OWN,), ()))[1]))
        self.raises_just(TooMany(16), plan_sentence, SEVENTEEN_LOTS)
        self.raises_just(TooMany(16), plan_sentence, BOTH)

    def test_great_integers(self):
        plan = ((("theirs", ZERO, (OF_400, 7)), OWN), ((0, 2, (1, OF_400), None),))
        wanted = ("es", ((("ge", (0, -1, 1)), ("ge", (-1, 0, OF_400))), (("gt", (0, -1, 0)),),
        (("gt", (-OF_400, 7, 0)),)))
        self.tells(wanted, plan_sentence, plan)
        self.tells(True, can_keep, plan)

    def test_result_is_outcome(self):
        drawn = random.Random(120)
        for _ in range(200):
            plan = drawn_plan(drawn, drawn.randint(1, 4), drawn.randint(0, 3), 4)
            sentence = asked(plan_sentence, plan)
            times, at = [], ZERO
            for event in plan[0]:
                at = plus(at, drawn.choice((ZERO, ONE, TWO, drawn_fraction(drawn)) + event[1:]))
                times.append(at)
            kept = outcome(plan, tuple(times)) in ("kept", "theirs")
            self.assertEqual("some" if kept else "each", result(sentence, tuple(times)))

    def test_all_others_raise_this_likewise(self):
        for plan in (SEVENTEEN_ROWS, SEVENTEEN_LOTS, BOTH):
            for function in (can_keep, plan_paper):
                self.raises_just(TooMany(16), function, plan)
            for times in ((), (ONE,)):
                self.raises_just(TooMany(16), next_time, plan, ("no", (("against", (0,)),)), times)
        self.raises_just(TooMany(16), first_times, SEVENTEEN_ROWS)
        self.raises_just(TooMany(16), least_span, SEVENTEEN_ROWS, 0, 1)
        plan = ((OWN, ("theirs", ONE, TWO)), at_least(16))
        self.raises_just(TooMany(16), longest, plan, 2)
        self.raises_just(TooMany(16), least_span, plan, 0, 2)


class Keeping(Checks, unittest.TestCase):

    def test_known_ones(self):
        for plan, wanted in KNOWN:
            self.assertIs(wanted, means(as_formula(plan), {}), plan)
            self.tells(wanted, can_keep, plan)
            paper = asked(plan_paper, plan)
            self.assertEqual("yes" if wanted else "no", paper[0])
            self.assertIsNone(paper_error(plan_sentence(plan), paper))

    def test_drawn_ones(self):
        drawn = random.Random(121)
        kept = 0
        for _ in range(250):
            plan = drawn_plan(drawn, drawn.randint(1, 3), drawn.randint(0, 3), 5)
            wanted = means(as_formula(plan), {})
            self.tells(wanted, can_keep, plan)
            self.assertEqual("some" if wanted else "each", decided(plan_sentence(plan)))
            kept += wanted
        self.assertTrue(60 < kept < 190, kept)

    def times_of_theirs(self, drawn, event, before):
        """Return a time within the bounds of event, often at one of them."""
        _, low, high = event
        span = drawn.choice((low, high, None))
        if span is None:
            part = Fraction(drawn.randint(0, 7), 7)
            worth = Fraction(*low) + part * (Fraction(*high) - Fraction(*low))
            span = (worth.numerator, worth.denominator)
        return plus(before, span)

    def test_next_time_leads_to_kept_whatever_comes(self):
        drawn = random.Random(122)
        plans = [plan for plan, kept in KNOWN if kept]
        while len(plans) < 60:
            plan = drawn_plan(drawn, drawn.randint(2, 5), drawn.randint(1, 5), 6)
            if can_keep(plan):
                plans.append(plan)
        for plan in plans:
            paper, sentence = plan_paper(plan), plan_sentence(plan)
            for _ in range(5):
                times = ()
                for event in plan[0]:
                    if event == OWN:
                        told = asked(next_time, plan, paper, times)
                        self.assertEqual(reply(sentence, paper, times), told)
                        times += (told,)
                    else:
                        self.refuses(Unfit, next_time, plan, paper, times)
                        times += (self.times_of_theirs(drawn, event, times[-1] if times else ZERO),)
                self.refuses(Unfit, next_time, plan, paper, times)
                self.refuses(Unfit, next_time, plan, paper, times + (ONE,))
                self.assertEqual("kept", outcome(plan, times))

    def test_whoever_holds_the_no_paper_breaks_the_plan(self):
        drawn = random.Random(123)
        plans = [plan for plan, kept in KNOWN if not kept]
        while len(plans) < 40:
            plan = drawn_plan(drawn, drawn.randint(2, 4), drawn.randint(1, 5), 6)
            if not can_keep(plan):
                plans.append(plan)
        for plan in plans:
            paper, sentence = plan_paper(plan), plan_sentence(plan)
            for _ in range(5):
                ours = tuple(drawn_fraction(drawn) for event in plan[0] if event == OWN)
                self.assertEqual("broken", outcome(plan, followed(sentence, paper, ours)))

    def test_next_time_as_told(self):
        paper = plan_paper(PAINT)
        first = asked(next_time, PAINT, paper, ())
        second = plus(first, FIVE)
        last = asked(next_time, PAINT, paper, (first, second))
        self.assertEqual("kept", outcome(PAINT, (first, second, last)))
        self.tells((4, 1), next_time, LATE, plan_paper(LATE), (THREE,))
        self.refuses(Unfit, next_time, PAINT, paper, (first,))
        self.refuses(Unfit, next_time, SHARP, plan_paper(SHARP), ())

    def test_any_right_paper(self):
        wait = ((OWN,), ((0, 1, TWO, None),))
        for number in (TWO, SEVEN, (9, 4)):
            self.tells(number, next_time, wait, ("yes", (("lot", 0), ("answer", 0, (number,)))), ())

    def test_unfit(self):
        no = plan_paper(SHARP)
        for times in ((), (ONE,), (ONE, FOUR), (ONE, FOUR, SIX), (ONE,) * 4):
            self.refuses(Unfit, next_time, SHARP, no, times)
        yes = plan_paper(LATE)
        for times in ((), (THREE, FOUR), (THREE, FOUR, FOUR), (THREE,) * 9):
            self.refuses(Unfit, next_time, LATE, yes, times)
        # Nobody's claim holds where our time was not told by the paper.
        self.refuses(Unfit, next_time, PAINT, plan_paper(PAINT), ((9, 1), TEN))

    def test_a_plan_that_could_be_kept_still_can(self):
        drawn = random.Random(124)
        changed = {"less": 0, "later": 0, "earlier": 0, "narrower": 0, "ours": 0}
        plans = [plan for plan, kept in KNOWN if kept]
        while len(plans) < 60:
            plan = drawn_plan(drawn, drawn.randint(2, 4), drawn.randint(2, 4), 6)
            if can_keep(plan):
                plans.append(plan)
        for plan in plans:
            for word, easier in self.easier(drawn, plan):
                self.assertIsNone(plan_error(easier))
                self.tells(True, can_keep, easier)
                changed[word] += 1
        self.assertTrue(all(many > 20 for many in changed.values()), changed)

    def easier(self, drawn, plan):
        """Return pairs (word, plan): plans that are easier than plan, and in what."""
        events, wishes = plan
        found = []
        for place, (i, j, low, high) in enumerate(wishes):
            ahead, behind = wishes[:place], wishes[place + 1:]
            found.append(("less", (events, ahead + behind)))
            if high is not None:
                found.append(("later", (events, ahead + ((i, j, low, plus(high, HALF)),) + behind)))
            if low is not None and low != ZERO:
                found.append(("earlier", (events, ahead + ((i, j, ZERO, high),) + behind)))
        for place, event in enumerate(events):
            if event != OWN:
                _, low, high = event
                middle = Fraction(*low) + (Fraction(*high) - Fraction(*low)) / drawn.choice((2, 3))
                narrow = drawn.choice((("theirs", low, frac(middle)), ("theirs", frac(middle), high)))
                found.append(("narrower", (events[:place] + (narrow,) + events[place + 1:], wishes)))
                ours = events[:place] + (OWN,) + events[place + 1:]
                found.append(("ours", (ours, wishes)))
                if (place, place + 1, low, high) not in wishes:
                    found.append(("ours", (ours, wishes + ((place, place + 1, low, high),))))
        return [(word, easier) for word, easier in found if plan_error(easier) is None]


def frac(number):
    return (number.numerator, number.denominator)


class Amounts(Checks, unittest.TestCase):

    def test_as_told(self):
        self.tells(row("[0,4]"), first_times, PAINT)
        self.tells((), first_times, SHARP)
        self.tells(("reached", (9, 1)), longest, PAINT, 2)
        self.tells(("never",), longest, SHARP, 2)
        self.tells(("reached", FOUR), longest, LATE, 1)
        for plan, i, j, wanted in (
            (PAINT, 0, 3, ("reached", SIX)), (PAINT, 1, 3, ("reached", SIX)), (LATE, 1, 2, ("reached", FOUR)),
            (SHARP, 0, 3, ("never",)),
        ):
            self.tells(wanted, least_span, plan, i, j)
        self.tells(("reached", ONE), longest, ((OWN, ("theirs", ZERO, TWO)), ((0, 2, FIVE, SIX),)), 2)
        self.tells(("endless",), longest, ((("theirs", TWO, FIVE),), ()), 1)

    def test_first_times(self):
        for plan, text in (
            (((OWN,), ()), "[0,+)"), (((OWN,), ((0, 1, TWO, FIVE),)), "[2,5]"), (((OWN,), ((0, 1, TWO, TWO),)),
            "[2,2]"),
            (((OWN,), ((0, 1, TWO, None), (0, 1, None, ONE))), ""), (((OWN, ("theirs", ONE, TWO)),
            ((0, 2, None, FIVE),)), "[0,3]"),
            (((OWN, ("theirs", ONE, TWO)), ((0, 2, FIVE, None), (0, 1, None, TEN))), "[4,10]"),
            (((OWN, OWN), ((1, 2, FIVE, None), (0, 2, None, SEVEN))), "[0,2]"), (((OWN, OWN), ((0, 2, FIVE, None),)),
            "[0,+)"),
        ):
            self.tells(row(text), first_times, plan)

    def test_first_times_in_another_way(self):
        drawn = random.Random(125)
        many = 0
        while many < 100:
            plan = drawn_plan(drawn, drawn.randint(1, 3), drawn.randint(1, 3), 5)
            if plan[0][0] == OWN:
                many += 1
                told = asked(first_times, plan)
                self.assertIsNone(stretches_error(told))
                self.assertEqual(firsts(plan_sentence(plan)), told)
                self.assertEqual(can_keep(plan), told != ())
                for fraction in probes(told):
                    wanted = means(as_step(plan, 1), {"t1": Fraction(*fraction)})
                    self.assertEqual(wanted, in_stretches(told, fraction))

    def test_first_times_unfit_ahead_of_too_many(self):
        self.refuses(Unfit, first_times, LATE)
        self.refuses(Unfit, first_times, ((("theirs", ZERO, ONE),), ()))
        self.refuses(Unfit, first_times, SEVENTEEN_LOTS)
        self.refuses(Unfit, first_times, BOTH)
        # Eight events are let here.
        self.tells(row("[0,+)"), first_times, (EIGHT_OWN, ()))

    def test_longest(self):
        for plan, event, wanted in (
            (PAINT, 2, ("reached", (9, 1))), (((OWN, ("theirs", TWO, FIVE)), ()), 2, ("endless",)),
            (((OWN, ("theirs", TWO, FIVE)), ((0, 2, None, THREE),)), 2, ("reached", THREE)),
            (((OWN, ("theirs", TWO, FIVE)), ((0, 2, None, TWO),)), 2, ("reached", TWO)),
            (((OWN, ("theirs", TWO, FIVE)), ((0, 2, None, (199, 100)),)), 2, ("never",)),
            (((("theirs", ONE, TWO), ("theirs", ONE, TWO), OWN), ((0, 3, TEN, TEN),)), 1, ("reached", (8, 1))),
            (((("theirs", ONE, TWO), ("theirs", ONE, TWO), OWN), ((0, 3, TEN, TEN),)), 2, ("reached", (8, 1))),
            (((("theirs", ONE, FIVE), OWN), ((1, 2, TWO, None), (0, 2, None, FIVE))), 1, ("reached", THREE)),
            # The other events are as they are.
            (((("theirs", ONE, FIVE), ("theirs", ONE, FIVE)), ((0, 1, None, FOUR),)), 2, ("never",)),
            (((OWN, ("theirs", HALF, (1, 2)), OWN), ((1, 3, FIVE, FIVE), (2, 3, (1, 3), None))),
            2, ("reached", (14, 3))),
        ):
            self.tells(wanted, longest, plan, event)

    def test_longest_by_keeping(self):
        drawn = random.Random(126)
        words = []
        for _ in range(150):
            plan = drawn_plan(drawn, drawn.randint(1, 4), drawn.randint(1, 4), 5)
            for event, (word, *bounds) in enumerate(plan[0], 1):
                if word != "theirs":
                    continue
                told, error = outcome_of(longest, (plan, event), {})
                self.assertIsNone(error)
                words.append(told[0])
                self.tells(told, longest, plan, event)
                self.beside(told, Fraction(*bounds[0]), lambda v: can_keep(self.with_high(plan, event, v)))
                kept = told[0] == "endless" or len(told) == 2 and (
                    Fraction(*told[1]) > Fraction(*bounds[1])
                    or Fraction(*told[1]) == Fraction(*bounds[1]) and told[0] == "reached"
                )
                self.assertEqual(kept, can_keep(plan))
        self.assertTrue(all(words.count(word) > 15 for word in ("reached", "endless", "never")), words)

    def with_high(self, plan, event, high):
        events, wishes = plan
        word, low, _ = events[event - 1]
        return (events[:event - 1] + ((word, low, frac(high)),) + events[event:], wishes)

    def beside(self, told, low, keeps, sign=1):
        """Check what is told by keeping at it and beside it; numbers below low are none, sign is -1 for a least one."""
        tried = [low, low + Fraction(1, 7), low + 3, low + 1000]
        if len(told) == 2:
            at = Fraction(*told[1])
            self.assertEqual(told[0] == "reached", keeps(at))
            self.assertGreaterEqual(at, low)
            tried += [at + by for by in (-1, Fraction(-1, 100), Fraction(1, 100), 1) if at + by >= low]
            for number in tried:
                if number != at:
                    self.assertEqual(number < at if sign == 1 else number > at, keeps(number), number)
        else:
            for number in tried:
                self.assertEqual(told[0] == "endless", keeps(number))

    def test_longest_neared(self):
        # All rows of plans are "ge" or, for what breaks bounds, "gt": ends are reached then.
        drawn = random.Random(127)
        for _ in range(60):
            plan = drawn_plan(drawn, 3, 3, 5)
            for event in range(1, 4):
                if plan[0][event - 1] != OWN:
                    self.assertIn(longest(plan, event)[0], ("reached", "endless", "never"))

    def test_longest_unfit_ahead_of_too_many(self):
        for event in ODD_VALUES + [3, 4, -2, (2,), "2", (2, 1), 2 ** 70]:
            if event != 2 or isinstance(event, bool):
                self.refuses(Unfit, longest, PAINT, event)
        for plan in (PAINT, SHARP):
            for event in (1, 3):
                self.refuses(Unfit, longest, plan, event)
        self.refuses(Unfit, longest, LATE, 2)
        self.refuses(Unfit, longest, (EIGHT_OWN, at_least(9)), 1)
        self.refuses(Unfit, longest, SEVENTEEN_LOTS, 9)
        self.refuses(Unfit, longest, SEVENTEEN_LOTS, 0)
        for plan in ((EIGHT_THEIRS[:7] + (OWN,), ()), SEVENTEEN_LOTS, BOTH):
            self.raises_just(TooMany(8), longest, plan, 7)
        self.tells(("endless",), longest, (EIGHT_THEIRS[:7], ()), 7)

    def test_least_span(self):
        for plan, i, j, wanted in (
            (((OWN,), ()), 0, 1, ("reached", ZERO)), (((OWN,), ((0, 1, TWO, None),)), 0, 1, ("reached", TWO)),
            (((OWN, OWN), ()), 1, 2, ("reached", ZERO)), (((("theirs", TWO, FIVE),), ()), 0, 1, ("reached", FIVE)),
            (((OWN, ("theirs", TWO, FIVE)), ()), 0, 2, ("reached", FIVE)),
            (((OWN, ("theirs", TWO, FIVE)), ((0, 2, SIX, None),)), 0, 2, ("reached", (9, 1))),
            (((OWN, ("theirs", TWO, FIVE)), ((0, 2, SIX, None),)), 0, 1, ("reached", FOUR)),
            (((("theirs", TWO, FIVE), OWN), ((1, 2, HALF, None),)), 0, 2, ("reached", (11, 2))),
            (((("theirs", TWO, FIVE), OWN), ((0, 2, FIVE, None),)), 1, 2, ("reached", THREE)),
            (((("theirs", TWO, FIVE), OWN), ((0, 2, None, FOUR),)), 1, 2, ("never",)),
        ):
            self.tells(wanted, least_span, plan, i, j)

    def test_least_span_by_keeping(self):
        drawn = random.Random(128)
        words = []
        for _ in range(120):
            events, wishes = plan = drawn_plan(drawn, drawn.randint(1, 4), drawn.randint(0, 3), 5)
            told_of_all = set()
            for i in range(len(events)):
                for j in range(i + 1, len(events) + 1):
                    told = asked(least_span, plan, i, j)
                    words.append(told[0])
                    told_of_all.add(told[0] == "never")
                    if drawn.random() < 0.4:
                        self.beside(told, Fraction(0), lambda v: can_keep(self.with_wish(plan, i, j, v)), -1)
            # It can be kept exactly if there is some span, and then there is one for each two events.
            self.assertEqual({not can_keep(plan)}, told_of_all)
        self.assertTrue(all(words.count(word) > 30 for word in ("reached", "never")), words)

    def with_wish(self, plan, i, j, high):
        wish = (i, j, None, frac(high))
        return (plan[0], plan[1] if wish in plan[1] else plan[1] + (wish,))

    def test_least_span_unfit_ahead_of_too_many(self):
        for i, j in ((2, 2), (1, 0), (3, 1), (-1, 2), (0, 4), (3, 4), (0, 0), (OF_400, OF_400 + 1), (-OF_400, 3)):
            self.refuses(Unfit, least_span, PAINT, i, j)
        for i, j in ((2, 2), (1, 0), (3, 1), (8, 7), (-1, 2), (0, 9), (8, 9), (0, 0)):
            for plan in ((EIGHT_OWN, ()), (EIGHT_OWN, at_least(9)), SEVENTEEN_LOTS, BOTH):
                self.refuses(Unfit, least_span, plan, i, j)
        for value in ODD_VALUES:
            if isinstance(value, bool) or value not in (1, 2):
                self.refuses(Unfit, least_span, PAINT, 0, value)
            if isinstance(value, bool) or value not in (0, 1, 2):
                self.refuses(Unfit, least_span, PAINT, value, 3)
            self.refuses(Unfit, least_span, PAINT, value, value)
        self.refuses(Unfit, least_span, SEVENTEEN_ROWS, 0, 2)
        for plan in ((EIGHT_OWN, ()), (EIGHT_OWN, at_least(9)), SEVENTEEN_LOTS, BOTH):
            self.raises_just(TooMany(8), least_span, plan, 0, 8)
        self.tells(("reached", ZERO), least_span, (EIGHT_OWN[:7], ()), 0, 7)

    def test_least_span_of_as_many_rows_as_may_be(self):
        self.raises_just(TooMany(16), least_span, SIXTEEN_ROWS, 0, 1)
        self.tells(("reached", (14, 1)), least_span, ((OWN,), at_least(14)), 0, 1)
        # Sixteen rows are let elsewhere.
        self.tells(row("[15,+)"), first_times, SIXTEEN_ROWS)
        self.tells(True, can_keep, SIXTEEN_ROWS)
        self.tells(("endless",), longest, ((OWN, ("theirs", ONE, TWO)), at_least(15)), 2)

    def test_none_of_those_that_e2_names_is_too_long(self):
        drawn = random.Random(129)
        for _ in range(60):
            plan = drawn_plan(drawn, 5, 6, 9)
            if outcome_of(plan_sentence, (plan,), {})[1] is None:
                self.assertIsNone(paper_error(plan_sentence(plan), plan_paper(plan)))
                if plan[0][0] == OWN:
                    self.assertIsNone(stretches_error(first_times(plan)))
        for _ in range(60):
            plan = drawn_plan(drawn, 4, 6, 9)
            told, error = outcome_of(plan_sentence, (plan,), {})
            if error is None:
                for event in range(1, 5):
                    if plan[0][event - 1] != OWN:
                        self.assertIn(longest(plan, event)[0], ("reached", "endless", "never"))
                if len(told[1][0]) < 16:
                    for j in range(1, 5):
                        self.assertIn(least_span(plan, 0, j)[0], ("reached", "never"))

    def test_holders(self):
        sentence = plan_sentence(PAINT)
        self.assertEqual(["some", "each", "some"], [owner_of(sentence, k) for k in (1, 2, 3)])
        self.assertEqual("some", HOLDERS[plan_paper(PAINT)[0]])


if __name__ == "__main__":
    unittest.main()
