"""[E2], [E3], and [B5], [B6], [C6], [D6] of the search: who wins, papers for it, and what it hangs on."""

import itertools
import random
import unittest
from fractions import Fraction
from unittest import mock

from answerlines.bounds import MAX_CLAIM, MAX_STEPS
from answerlines.errors import TooMany
from answerlines.papers import HOLDERS, claims_of, paper_error, trimmed
from answerlines.plays import rest, result
from answerlines.replies import followed, reply
from answerlines.rows import contrary, holds
from answerlines.search import core, decided, find, winner
from answerlines.sentences import owner_of
from tests.deciding import who_wins
from tests.drawing import (
    contradicting_lot, drawn_fraction, drawn_fractions, drawn_lot, drawn_plan_sentence, drawn_sentence, parting_lots,
)
from tests.helping import OF_400, Checks, asked
from tests.somepapers import PAPERS

SAME, ABOVE, BELOW = (("ge", (0, -1, 1)), ("ge", (0, 1, -1))), (("gt", (0, -1, 1)),), (("gt", (0, 1, -1)),)
BETWEEN = (("gt", (0, -1, 0, 1)), ("gt", (0, 0, 1, -1)))
NEVER = (("gt", (0, 0, 0)),)
BY_HAND = [
    # No unknowns, no lots, a lot without rows, settled rows.
    (("", ()), "each"), (("", ((),)), "some"), (("", ((("gt", (0,)),),)), "each"), (("", ((("ge", (0,)),),)), "some"),
    (("", ((("gt", (0,)),), (("gt", (1,)),))), "some"), (("", ((("ge", (1,)), ("ge", (-1,))),)), "each"),
    (("ss", ()), "each"), (("eeeeeeee", ((),)), "some"), (("ssssssss", ()), "each"), (("es", (NEVER, ())), "some"),
    (("ss", (NEVER,)), "each"), (("ee", ((("ge", (0, 0, 0)), ("gt", (1, 0, 0))),)), "some"),
    # One unknown.
    (("s", ((("gt", (0, 1)),),)), "some"), (("e", ((("gt", (0, 1)),),)), "each"),
    (("s", ((("gt", (0, 1)), ("ge", (0, -1))),)), "each"), (("s", ((("ge", (0, 1)), ("ge", (0, -1))),)), "some"),
    (("s", ((("gt", (-1, 3)), ("gt", (1, -2))),)), "some"), (("s", ((("gt", (-1, 2)), ("gt", (1, -3))),)), "each"),
    (("e", ((("ge", (0, 1)),), (("ge", (0, -1)),))), "some"), (("e", ((("gt", (0, 1)),), (("gt", (0, -1)),))), "each"),
    (("e", ((("gt", (0, 1)),), (("ge", (0, -1)),))), "some"), (("e", ((("ge", (0, 1)),), (("ge", (-1, -1)),))), "each"),
    # Two unknowns, of each order of owners.
    (("es", (SAME,)), "some"), (("se", (SAME,)), "each"), (("ss", (SAME,)), "some"), (("ee", (SAME,)), "each"),
    (("es", (ABOVE,)), "some"), (("se", (ABOVE,)), "each"), (("ee", (SAME, ABOVE)), "each"),
    (("ee", (SAME, ABOVE, BELOW)), "some"), (("ee", (ABOVE, BELOW)), "each"), (("se", (ABOVE, BELOW)), "each"),
    (("se", (ABOVE, BELOW, SAME)), "some"), (("ss", (ABOVE + BELOW,)), "each"),
    # x2 is at most x1 or from 1 on: SOME, first, names 1 or more; EACH names 0, and then 1/2.
    (("se", ((("ge", (0, 1, -1)),), (("ge", (-1, 0, 1)),))), "some"),
    (("ee", ((("ge", (0, 1, -1)),), (("ge", (-1, 0, 1)),))), "each"),
    (("se", ((("gt", (0, 1, -1)), ("gt", (1, -1, 0))), (("ge", (-1, 0, 1)),))), "each"),
    (("se", ((("ge", (0, 1, -1)), ("ge", (1, -1, 0))), (("ge", (-1, 0, 1)),))), "some"),
    # Three unknowns: x3 between x1 and x2, which there is if x1 is less.
    (("ses", (BETWEEN, (("ge", (0, 1, -1, 0)),))), "some"), (("ees", (BETWEEN,)), "each"),
    (("sss", (BETWEEN,)), "some"),
    (("ees", (BETWEEN, (("ge", (0, 1, -1, 0)),))), "some"), (("ees", (BETWEEN, (("gt", (0, 1, -1, 0)),))), "each"),
    (("sse", (BETWEEN,)), "each"), (("ess", (BETWEEN,)), "some"), (("ses", (BETWEEN,)), "each"),
    # Four: SOME copies each of EACH's numbers, or has to name the second one ahead.
    (("eses", ((("ge", (0, 1, -1, 0, 0)), ("ge", (0, -1, 1, 0, 0)), ("gt", (0, 0, 0, -1, 1))),)), "some"),
    (("eess", ((("ge", (0, 1, 0, -1, 0)), ("ge", (0, -1, 0, 1, 0)), ("gt", (0, 0, -1, 0, 1))),)), "some"),
    (("esse", ((("ge", (0, 1, -1, 0, 0)), ("ge", (0, -1, 1, 0, 0)), ("gt", (0, 0, 0, -1, 1))),)), "each"),
]


def orders(n):
    """Return all owners of n unknowns."""
    return ["".join(signs) for signs in itertools.product("es", repeat=n)]


class Found(unittest.TestCase):
    """What all tests of found papers need."""

    def check(self, sentence, plays=3, seed=1):
        """Find a paper; check it, and that its holder wins some plays; return its side."""
        paper = asked(find, sentence)
        self.assertIsNone(paper_error(sentence, paper), sentence)
        drawn = random.Random(seed)
        others = [k for k in range(len(sentence[0])) if owner_of(sentence, k + 1) != HOLDERS[paper[0]]]
        for place in range(plays):
            named = tuple(drawn_fraction(drawn, place == 2) for _ in others)
            self.assertEqual(HOLDERS[paper[0]], result(sentence, followed(sentence, paper, named)), sentence)
        return paper[0]


class Find(Checks, Found):

    def test_whose_winner_is_known(self):
        for sentence, who in BY_HAND + [(sentence, HOLDERS[paper[0]]) for sentence, paper in PAPERS]:
            self.assertEqual(who, HOLDERS[self.check(sentence, 20)], sentence)
            self.tells(who, decided, sentence)

    def test_the_side_that_is_found_in_another_way(self):
        drawn = random.Random(10)
        for n, lots, rows, many in ((0, 3, 2, 20), (1, 4, 3, 60), (2, 3, 3, 80), (3, 2, 2, 60), (3, 3, 1, 60)):
            for _ in range(many):
                size, noughts = drawn.choice((1, 2, 4)), drawn.choice((0, 0.3, 0.6))
                sentence = drawn_sentence(drawn, n, lots, rows, size, noughts)
                self.assertEqual(who_wins(sentence), HOLDERS[self.check(sentence)], sentence)

    def test_the_other_party_names_borders(self):
        drawn = random.Random(11)
        for _ in range(120):
            sentence = drawn_sentence(drawn, drawn.choice((1, 2, 3, 4)), 3, 2, 2)
            paper = find(sentence)
            told = claims_of(sentence, paper)
            borders = [(level, numbers) for level, claim in told for _, numbers in claim if numbers[level]]
            for _ in range(6):
                play = ()
                while len(play) < len(sentence[0]):
                    if owner_of(sentence, len(play) + 1) == HOLDERS[paper[0]]:
                        play += (reply(sentence, paper, play),)
                    else:
                        play += (self.at_a_border(drawn, borders, play),)
                self.assertEqual(HOLDERS[paper[0]], result(sentence, play))

    def at_a_border(self, drawn, borders, play):
        """Return a number at which a row of borders comes to 0 behind play, or one just beside it."""
        there = [numbers for level, numbers in borders if level == len(play) + 1]
        if not there:
            return drawn_fraction(drawn)
        numbers = drawn.choice(there)
        ahead = numbers[0] + sum(number * Fraction(*own) for number, own in zip(numbers[1:], play))
        beside = drawn.choice((0, 0, Fraction(1, 10 ** 6), Fraction(-1, 10 ** 6)))
        at = -Fraction(ahead) / numbers[len(play) + 1] + beside
        return (at.numerator, at.denominator)

    def test_where_a_claim_holds_the_holder_wins(self):
        drawn = random.Random(38)
        for _ in range(60):
            sentence = drawn_sentence(drawn, drawn.choice((1, 2, 3)), 3, 2, 2)
            paper = find(sentence)
            claims = claims_of(sentence, paper)
            for k in list(range(len(sentence[0]) + 1)) * 6:
                play = drawn_fractions(drawn.random(), k)
                if any(level == k and all(holds(row, play) for row in claim) for level, claim in claims):
                    self.assertEqual(HOLDERS[paper[0]], winner(sentence, play))
                    while len(play) < len(sentence[0]):
                        if owner_of(sentence, len(play) + 1) == HOLDERS[paper[0]]:
                            play += (reply(sentence, paper, play),)
                        else:
                            play += (drawn_fraction(drawn),)
                    self.assertEqual(HOLDERS[paper[0]], result(sentence, play))

    def test_it_is_trimmed(self):
        drawn = random.Random(12)
        for _ in range(40):
            sentence = drawn_sentence(drawn, drawn.choice((1, 2, 3)), 4, 3, 3)
            paper = find(sentence)
            self.assertEqual(paper, trimmed(sentence, paper))


class NotRefused(Found):
    """Sentences of which no TooMany may come."""

    def check_shapes(self, seed, n, lots, rows, many):
        drawn = random.Random(seed)
        for owners in orders(n):
            for size, noughts in ((1, 0), (2, 0.4), (9, 0.1), (1000, 0)):
                for _ in range(many):
                    self.check((owners, tuple(drawn_lot(drawn, n, rows, size, noughts) for _ in range(lots))), 1)
            for size in (2, 9):
                for _ in range(many):
                    self.check((owners, parting_lots(drawn, n, lots, rows, size)), 1)
                    few = max(rows, 2)
                    self.check((owners, tuple(contradicting_lot(drawn, n, few, size) for _ in range(lots))), 1)

    def test_no_unknowns(self):
        drawn = random.Random(13)
        for _ in range(20):
            self.check(("", tuple(drawn_lot(drawn, 0, 6, 1) for _ in range(drawn.randint(0, 16)))))
        self.check(("", ((("gt", (0,)), ("ge", (-1,)), ("gt", (-1,))),) * 16))

    def test_one_unknown(self):
        self.check_shapes(14, 1, 16, 16, 4)
        self.check_shapes(15, 1, 16, 2, 4)
        self.check_shapes(16, 1, 16, 1, 8)

    def test_two_unknowns(self):
        self.check_shapes(17, 2, 8, 6, 3)
        self.check_shapes(18, 2, 8, 3, 3)
        self.check_shapes(19, 2, 8, 2, 3)

    def test_three_unknowns(self):
        self.check_shapes(20, 3, 4, 4, 2)
        self.check_shapes(21, 3, 4, 3, 2)
        self.check_shapes(22, 3, 4, 2, 2)

    def test_four_unknowns(self):
        self.check_shapes(23, 4, 2, 2, 3)

    def test_plans(self):
        drawn = random.Random(24)
        sides = []
        for _ in range(300):
            n, wishes, size = drawn.randint(1, 5), drawn.randint(0, 6), drawn.choice((3, 10, 40))
            sides.append(self.check(drawn_plan_sentence(drawn, n, wishes, size), 1))
        self.assertEqual({"no", "yes"}, set(sides))

    def test_great_numbers(self):
        drawn = random.Random(25)
        for n, lots, rows in ((1, 16, 16), (2, 8, 6), (3, 4, 4), (4, 2, 2)):
            for _ in range(4):
                self.check(drawn_sentence(drawn, n, lots, rows, OF_400 // 10, 0.1))

    def test_a_contradiction_in_each_of_many_lots(self):
        drawn = random.Random(26)
        for _ in range(6):
            self.assertEqual("no", self.check(("sss", tuple(contradicting_lot(drawn, 3, 4, 9) for _ in range(4)))))
            self.assertEqual("no", self.check(("ss", tuple(contradicting_lot(drawn, 2, 3, 9) for _ in range(8)))))

    def test_lots_that_cover_all(self):
        drawn = random.Random(27)
        for n, lots, rows in ((1, 8, 4), (2, 8, 6), (3, 4, 4)):
            for owners in orders(n):
                self.assertEqual("yes", self.check((owners, parting_lots(drawn, n, lots, rows, 5))))


class TooGreat(unittest.TestCase):

    def test_what_is_refused_is_refused_with_the_bound(self):
        # Of so many unknowns, lots and rows either is right, a paper or TooMany.
        drawn = random.Random(28)
        told = []
        for _ in range(6):
            sentence = drawn_sentence(drawn, 7, 16, 16, 3)
            try:
                paper = find(sentence)
            except TooMany as error:
                self.assertEqual((MAX_STEPS,), (error.limit,))
                told.append(sentence)
            else:
                self.assertIsNone(paper_error(sentence, paper))
                self.assertLessEqual(max(len(claim) for _, claim in claims_of(sentence, paper)), MAX_CLAIM)
        for sentence in told[:2]:
            for function, more in ((find, ()), (decided, ()), (winner, ((),)), (core, ())):
                with self.assertRaises(TooMany) as caught:
                    function(sentence, *more)
                self.assertEqual(MAX_STEPS, caught.exception.limit)
        self.assertTrue(told)

    def test_as_many_steps_and_rows_as_there_may_be(self):
        # A paper of few steps, in which a claim has 3 rows: so lesser bounds refuse it.
        sentence = ("ss", ((("gt", (0, 1, 0)), ("gt", (0, 0, 1)), ("gt", (1, -1, -1))),))
        steps = len(find(sentence)[1])
        self.assertEqual(3, max(len(claim) for _, claim in claims_of(sentence, find(sentence))))
        with mock.patch("answerlines.meetings.MAX_CLAIM", 3):
            self.assertIsNone(paper_error(sentence, find(sentence)))
        with mock.patch("answerlines.meetings.MAX_CLAIM", 2), self.assertRaises(TooMany):
            find(sentence)
        with mock.patch("answerlines.meetings.MAX_STEPS", steps - 1), self.assertRaises(TooMany) as caught:
            find(sentence)
        self.assertEqual(steps - 1, caught.exception.limit)


class Winner(Checks, unittest.TestCase):

    def test_by_hand(self):
        chase, trap = ("es", (ABOVE,)), ("se", (ABOVE,))
        self.tells("some", winner, ("es", (SAME,)), ((1, 2),))
        self.tells("each", winner, ("es", (SAME,)), ((1, 2), (1, 3)))
        self.tells("some", winner, ("es", (SAME,)), ((1, 2), (1, 2)))
        self.tells("each", winner, trap, ())
        self.tells("each", winner, trap, ((5, 1),))
        self.tells("some", winner, trap, ((5, 1), (6, 1)))
        self.tells("some", winner, chase, ())
        self.tells("each", winner, chase, ((OF_400, 1), (OF_400, 1)))
        self.tells("some", winner, chase, ((OF_400, 1), (OF_400 + 1, 1)))
        # From 0 to 1 alone x2 finds room below x1 and above its half.
        room = ("es", ((("gt", (0, 1, -1)), ("gt", (0, -1, 2)), ("ge", (1, -1, 0))),))
        for number, who in (((0, 1), "each"), ((1, 9), "some"), ((1, 1), "some"), ((10, 9), "each"), ((-1, 1), "each")):
            self.tells(who, winner, room, (number,))

    def test_it_is_what_decided_tells_of_the_rest(self):
        drawn = random.Random(29)
        for _ in range(60):
            sentence = drawn_sentence(drawn, drawn.randint(0, 3), 3, 2, 2)
            for k in range(len(sentence[0]) + 1):
                play = drawn_fractions(drawn.random(), k)
                self.tells(decided(rest(sentence, play)), winner, sentence, play)

    def test_decided_is_winner_of_the_empty_play(self):
        for sentence, who in BY_HAND:
            self.tells(who, winner, sentence, ())

    def test_of_a_whole_play_it_is_its_result(self):
        drawn = random.Random(30)
        for _ in range(60):
            sentence = drawn_sentence(drawn, drawn.randint(0, 4), 3, 2, 3)
            play = drawn_fractions(drawn.random(), len(sentence[0]))
            self.tells(result(sentence, play), winner, sentence, play)

    def test_whoever_is_at_turn_wins_if_a_number_leads_there(self):
        drawn = random.Random(31)
        few = drawn_fractions(2, 12)
        for _ in range(50):
            sentence = drawn_sentence(drawn, drawn.randint(1, 3), 3, 2, 2)
            for k in range(len(sentence[0])):
                play = drawn_fractions(drawn.random(), k)
                who = winner(sentence, play)
                told = {winner(sentence, play + (number,)) for number in few}
                if owner_of(sentence, k + 1) == who:
                    # The other one would have lost by each number.
                    paper = find(rest(sentence, play))
                    mine = followed(rest(sentence, play), paper, ((0, 1),) * (
                        rest(sentence, play)[0].count("e" if who == "some" else "s")
                    ))[0]
                    self.assertEqual(who, winner(sentence, play + (mine,)))
                else:
                    self.assertEqual({who}, told)


class Monotone(unittest.TestCase):

    def sentences(self, seed, many):
        drawn = random.Random(seed)
        return [(drawn, drawn_sentence(drawn, drawn.randint(1, 3), 3, 3, 2)) for _ in range(many)]

    def test_lots_and_rows_in_other_orders_and_lots_twice(self):
        for drawn, (owners, lots) in self.sentences(32, 60):
            who = decided((owners, lots))
            mixed = [tuple(drawn.sample(lot, len(lot))) for lot in lots + lots[:1]]
            drawn.shuffle(mixed)
            self.assertEqual(who, decided((owners, tuple(mixed))))
            # A lot with all rows of another one, and more, can be left out.
            more = tuple(dict.fromkeys(lots[0] + drawn_lot(drawn, len(owners), 2, 2)))
            self.assertEqual(who, decided((owners, lots + (more,))))

    def test_a_lot_more_or_a_row_fewer_never_makes_some_lose(self):
        for drawn, (owners, lots) in self.sentences(33, 60):
            if decided((owners, lots)) == "some":
                self.assertEqual("some", decided((owners, lots + (drawn_lot(drawn, len(owners), 2, 2),))))
                for place, lot in enumerate(lots):
                    for spot in range(len(lot)):
                        fewer = lots[:place] + (lot[:spot] + lot[spot + 1:],) + lots[place + 1:]
                        self.assertEqual("some", decided((owners, fewer)))

    def test_a_row_more_or_a_lot_fewer_never_makes_each_lose(self):
        for drawn, (owners, lots) in self.sentences(34, 60):
            if decided((owners, lots)) == "each":
                for place, lot in enumerate(lots):
                    self.assertEqual("each", decided((owners, lots[:place] + lots[place + 1:])))
                    more = tuple(dict.fromkeys(lot + drawn_lot(drawn, len(owners), 1, 2)))
                    self.assertEqual("each", decided((owners, lots[:place] + (more,) + lots[place + 1:])))

    def test_all_of_some_or_all_of_each(self):
        drawn = random.Random(35)
        for _ in range(40):
            n = drawn.randint(1, 3)
            lots = tuple(drawn_lot(drawn, n, 3, 2) for _ in range(3))
            alone = {decided(("s" * n, (lot,))) for lot in lots}
            self.assertEqual("some" if "some" in alone else "each", decided(("s" * n, lots)))
            # SOME wins all plays of EACH exactly if no point is in a contrary row of each lot.
            against = tuple(tuple(contrary(row) for row in rows) for rows in itertools.product(*lots))
            against = tuple(tuple(dict.fromkeys(lot)) for lot in against)
            told = "each" if any(decided(("s" * n, (lot,))) == "some" for lot in against) else "some"
            self.assertEqual(told, decided(("e" * n, lots)))


class Core(Checks, unittest.TestCase):

    def test_as_told(self):
        self.tells(("some", (2,)), core, ("es", (ABOVE, SAME, BELOW)))
        self.tells(("some", (0, 1, 2)), core, ("ee", (ABOVE, SAME, BELOW)))
        self.tells(("each", ((0, 2),)), core, ("se", (SAME + ABOVE,)))
        self.tells(("some", (2,)), core, ("ee", (ABOVE, BELOW, ())))

    def test_of_several_alike_the_first_ones_go(self):
        self.tells(("some", (3,)), core, ("es", (ABOVE,) * 4))
        self.tells(("some", (2, 3, 5)), core, ("ee", (SAME, ABOVE, SAME, BELOW, ABOVE, ABOVE)))
        self.tells(("some", (3, 4, 5)), core, ("ee", (SAME, ABOVE, ABOVE, SAME, BELOW, ABOVE)))
        self.tells(("each", ((0, 1), (1, 1))), core, ("ss", (NEVER + (("ge", (-1, 0, 0)),), BELOW + NEVER)))

    def test_all_are_needed(self):
        self.tells(("each", ((0, 0), (0, 1))), core, ("s", ((("gt", (0, 1)), ("ge", (0, -1))),)))
        self.tells(("each", ((0, 0), (0, 1), (1, 0))), core, ("ss", (ABOVE + BELOW, NEVER)))
        self.tells(("each", ((0, 0), (1, 0))), core, ("se", (ABOVE, BELOW)))

    def test_none_is_needed_of_no_lots(self):
        for owners in ("", "s", "eses"):
            self.tells(("each", ()), core, (owners, ()))
            self.tells(("some", (0,)), core, (owners, ((),)))

    def test_as_its_words_tell(self):
        drawn = random.Random(36)
        sides = []
        for _ in range(90):
            sentence = drawn_sentence(drawn, drawn.randint(0, 3), drawn.randint(1, 4), 3, 2)
            told = asked(core, sentence)
            self.assertEqual(self.by_its_words(sentence), told, sentence)
            sides.append(told[0])
        self.assertEqual({"some", "each"}, set(sides))

    def by_its_words(self, sentence):
        """Return what core is to return, lot by lot or row by row as [E2] tells it."""
        owners, lots = sentence
        who = decided(sentence)
        if who == "some":
            parts = list(range(len(lots)))
        else:
            parts = [(place, spot) for place, lot in enumerate(lots) for spot in range(len(lot))]
        left = list(parts)
        for part in parts:
            fewer = [other for other in left if other != part]
            if decided((owners, self.lots_of(lots, fewer, who))) == who:
                left = fewer
        return (who, tuple(left))

    def lots_of(self, lots, parts, who):
        if who == "some":
            return tuple(lots[place] for place in parts)
        return tuple(
            tuple(row for spot, row in enumerate(lot) if (place, spot) in parts) for place, lot in enumerate(lots)
        )

    def test_what_is_left_is_needed_and_has_a_core_of_all(self):
        drawn = random.Random(37)
        for _ in range(40):
            owners, lots = drawn_sentence(drawn, drawn.randint(1, 3), 4, 2, 2)
            who, left = core((owners, lots))
            small = self.lots_of(lots, left, who)
            self.assertEqual(who, decided((owners, small)))
            for part in left:
                fewer = self.lots_of(lots, [other for other in left if other != part], who)
                self.assertNotEqual(who, decided((owners, fewer)))
            self.assertEqual(len(left), len(core((owners, small))[1]))


if __name__ == "__main__":
    unittest.main()
