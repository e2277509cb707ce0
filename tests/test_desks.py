"""[K1] to [K4], and [K6] of desks: edits of a sentence, and the paper that is kept."""

import copy
import random
import unittest
from unittest import mock

from answerlines.bests import best_sure
from answerlines.desks import Desk, desk_behind
from answerlines.errors import (
    BadLog, BadSentence, LineError, NothingToRedo, NothingToUndo, NoVersion, TooMany, TooManyEdits, Unfit,
)
from answerlines.papers import HOLDERS, paper_error
from answerlines.plays import play_error, result
from answerlines.replies import reply
from answerlines.search import decided
from answerlines.sentences import owner_of, sentence_error
from tests.drawing import drawn_fraction, drawn_lot
from tests.helping import ODD_VALUES, OF_400, OF_401, Checks, brief, outcome_of, same

ABOVE, BELOW = (("gt", (0, -1, 1)),), (("gt", (0, 1, -1)),)
FROM_0 = (("ge", (0, 1, 0)),)
CATCH = ("es", (ABOVE,))
PROPERTIES = ("owners", "lots", "sentence", "version", "log", "found")
ONE = (1, 1)


def behind(owners, *lots):
    """Return a desk with these owners and lots."""
    return desk_behind(owners, tuple(("put", (lot,)) for lot in lots))


def state(desk):
    """Return all that properties and at tell of desk, and what redo would still tell."""
    told = [getattr(desk, name) for name in PROPERTIES] + [desk.at(k) for k in range(desk.version + 1)]
    left = desk.copy()
    while True:
        try:
            told += [left.redo(), left.sentence]
        except NothingToRedo:
            return told


class OnDesks(Checks):
    """Checks of methods of desks."""

    def does(self, wanted, desk, method, **told):
        """Check that method returns wanted, by place and by name, and changes nothing that it is handed."""
        ahead = copy.deepcopy(told)
        twin = desk.copy()
        first = getattr(desk, method)(*told.values())
        self.assertTrue(same(wanted, first), f"{method}: {brief(first)} is not {brief(wanted)}")
        self.assertTrue(same(first, getattr(twin, method)(**told)))
        self.assertTrue(same(state(desk), state(twin)))
        self.assertTrue(same(ahead, told))

    def fails(self, error, desk, method, **told):
        """Check that method raises an error just like this, and that nothing changes; the paper may."""
        ahead, before = copy.deepcopy(told), state(desk)
        for places, names in ((told.values(), {}), ((), told)):
            raised = outcome_of(getattr(desk, method), places, names)[1]
            self.assertTrue(same(error, raised), f"{method}: {raised!r} is not {error!r}, of {brief(told)}")
        now = state(desk)
        before[5] = now[5]
        self.assertTrue(same(before, now))
        self.assertTrue(same(ahead, told))


class Made(OnDesks, unittest.TestCase):

    def test_new_ones(self):
        for owners in ("", "e", "s", "es", "sese", "eeeeeeee", "ssssssss"):
            for desk in (Desk(owners), Desk(owners=owners)):
                self.assertTrue(same([owners, (), (owners, ()), 0, (), 0, (owners, ())], state(desk)))

    def test_bad_owners(self):
        for owners in ODD_VALUES + ["ex", "ES", "es ", " es", "e s", "eeeeeeeee", "s" * 9, "e" * 5000, ("e",), ["e",
        "s"], b"es"]:
            if owners not in ("", "e"):
                for made in (lambda: Desk(owners), lambda: Desk(owners=owners), lambda: desk_behind(owners, ())):
                    with self.assertRaises(BadSentence) as caught:
                        made()
                    self.assertEqual("owners", caught.exception.error)

    def test_no_property_can_be_set(self):
        desk = behind("es", ABOVE)
        before = state(desk)
        for name in PROPERTIES:
            for value in (None, 0, getattr(desk, name), "ss"):
                with self.assertRaises(AttributeError):
                    setattr(desk, name, value)
            with self.assertRaises(AttributeError):
                delattr(desk, name)
        self.assertTrue(same(before, state(desk)))

    def test_equality(self):
        desk = behind("es", ABOVE, FROM_0)
        alike = [
            desk.copy(), behind("es", ABOVE, FROM_0), desk_behind("ss", (
                ("put", (ABOVE,)), ("turn", (1,)), ("put", (BELOW,)), ("drop", (1,)), ("put", (FROM_0,)),
            )),
        ]
        alike[0].paper()
        for other in alike:
            self.assertTrue(desk == other and other == desk)
            self.assertFalse(desk != other or other != desk)
        for other in (
            behind("es", FROM_0, ABOVE), behind("es", ABOVE), behind("ss", ABOVE, FROM_0), Desk("es"), Desk(""),
            behind("es", ABOVE, FROM_0, FROM_0), desk.sentence, desk.log, "es", *ODD_VALUES,
        ):
            self.assertIs(False, desk == other)
            self.assertIs(True, desk != other)
            self.assertIs(False, other == desk)
            self.assertIs(True, other != desk)
        self.assertEqual(Desk(""), Desk(""))


class Edits(OnDesks, unittest.TestCase):

    def test_as_told(self):
        desk = Desk("es")
        self.does(1, desk, "put", lot=ABOVE)
        self.assertEqual(CATCH, desk.sentence)
        self.does(2, desk, "put", lot=FROM_0)
        self.does(3, desk, "drop", place=0)
        self.does(4, desk, "turn", number=1)
        self.assertEqual(("ss", (FROM_0,)), desk.sentence)
        self.does(3, desk, "undo")
        self.does(2, desk, "undo")
        self.assertEqual(("es", 2), (desk.owners, len(desk.lots)))
        self.does(3, desk, "redo")
        self.assertEqual(CATCH, desk.at(1))
        self.assertEqual((("drop", (0,)),), desk.log[2:])
        self.assertEqual(desk, desk_behind("es", desk.log))

    def test_put(self):
        desk = Desk("es")
        lots = [(), ABOVE, ABOVE, ABOVE + BELOW, (("gt", (0, 0, 0)),), (("ge", (OF_400, -1, 7)),)]
        for place, lot in enumerate(lots):
            self.does(place + 1, desk, "put", lot=lot)
            self.assertTrue(same(("es", tuple(lots[:place + 1])), desk.sentence))
            self.assertTrue(same(("put", (lot,)), desk.log[-1]))
        self.does(1, Desk(""), "put", lot=(("gt", (1,)),))

    def test_drop(self):
        lots = (ABOVE, BELOW, FROM_0, ())
        for place in range(4):
            desk = behind("es", *lots)
            self.does(5, desk, "drop", place=place)
            self.assertEqual(lots[:place] + lots[place + 1:], desk.lots)
            self.assertEqual(("drop", (place,)), desk.log[-1])

    def test_turn(self):
        desk = behind("eses", (("gt", (1, 0, 0, 0, 2)),))
        lots = desk.lots
        for number, owners in ((1, "sses"), (4, "ssee"), (2, "seee"), (1, "eeee"), (3, "eese")):
            self.does(desk.version + 1, desk, "turn", number=number)
            self.assertEqual((owners, lots), desk.sentence)
            self.assertEqual(("turn", (number,)), desk.log[-1])

    def test_put_of_what_is_no_lot(self):
        for owners in ("", "es", "sese"):
            desk = Desk(owners)
            for lot in ODD_VALUES + [
                [ABOVE[0]], (list(ABOVE[0]),), ABOVE + ABOVE, (("gt", (0, -2, 2)),), (("gt", (0, 1)),),
                ABOVE[0], (ABOVE,),
                (("gt", (0, 1, 1)), ("gt", [0, 1, 1])), tuple(("ge", (k, 1, 0)) for k in range(17)),
                (("gt", (True, 1, 1)),),
                (("gt", (0, 0, 1)), ("ge", (0, 0, 1)), ("gt", (0, 0, 1))), desk, (desk,), (("gt", (0, 1, 1, 1)),),
            ]:
                error = sentence_error((owners, (lot,)))
                if error is not None:
                    self.fails(BadSentence(error), desk, "put", lot=lot)
        desk = Desk("es")
        self.fails(BadSentence(("lot", 0)), desk, "put", lot=list(ABOVE))
        self.fails(BadSentence(("row", 0, 1)), desk, "put", lot=ABOVE + (("gt", (0, 1)),))
        self.fails(BadSentence(("twice", 0, 2)), desk, "put", lot=ABOVE + BELOW + ABOVE)

    def test_drop_and_turn_of_what_is_none(self):
        for desk in (Desk(""), Desk("es"), behind("es", ABOVE, BELOW), behind("s", ())):
            for value in ODD_VALUES + [3, -2, 16, OF_401, (0,), [0], "0", "1", desk, 1 << 70]:
                if isinstance(value, bool) or not isinstance(value, int) or not 0 <= value < len(desk.lots):
                    self.fails(Unfit(), desk, "drop", place=value)
                if isinstance(value, bool) or not isinstance(value, int) or not 1 <= value <= len(desk.owners):
                    self.fails(Unfit(), desk, "turn", number=value)

    def test_sixteen_lots(self):
        desk = behind("es", *[()] * 16)
        self.fails(TooMany(16), desk, "put", lot=())
        self.fails(TooMany(16), desk, "put", lot=ABOVE)
        self.fails(BadSentence(("lot", 0)), desk, "put", lot=[])
        self.does(17, desk, "turn", number=1)
        self.does(18, desk, "drop", place=15)
        self.does(19, desk, "put", lot=ABOVE)

    def test_forty_edits(self):
        desk = behind("es", ABOVE)
        for version in range(2, 41):
            self.does(version, desk, "turn", number=1 + version % 2)
        self.assertEqual((40, 40), (desk.version, len(desk.log)))
        self.fails(TooManyEdits(), desk, "put", lot=BELOW)
        self.fails(TooManyEdits(), desk, "drop", place=0)
        self.fails(TooManyEdits(), desk, "turn", number=2)
        # Other errors are told ahead.
        self.fails(BadSentence(("lot", 0)), desk, "put", lot=None)
        self.fails(Unfit(), desk, "drop", place=1)
        self.fails(Unfit(), desk, "turn", number=3)
        # With one of them taken back one may stand again.
        self.does(39, desk, "undo")
        self.does(40, desk, "redo")
        self.fails(NothingToRedo(), desk, "redo")
        self.does(39, desk, "undo")
        self.does(40, desk, "put", lot=BELOW)
        self.fails(TooManyEdits(), desk, "turn", number=1)
        self.assertEqual(desk, desk_behind("es", desk.log))

    def test_sixteen_lots_and_forty_edits(self):
        desk = behind("es", *[()] * 16)
        for _ in range(24):
            desk.turn(2)
        self.assertEqual(40, desk.version)
        self.fails(TooMany(16), desk, "put", lot=())
        self.fails(TooManyEdits(), desk, "drop", place=15)

    def test_undo_and_redo(self):
        desk = Desk("es")
        self.fails(NothingToUndo(), desk, "undo")
        self.fails(NothingToRedo(), desk, "redo")
        desk.put(ABOVE)
        self.fails(NothingToRedo(), desk, "redo")
        self.does(0, desk, "undo")
        self.fails(NothingToUndo(), desk, "undo")
        self.assertEqual([("es", ()), ()], [desk.sentence, desk.log])
        self.does(1, desk, "redo")
        self.fails(NothingToRedo(), desk, "redo")
        self.assertEqual([CATCH, (("put", (ABOVE,)),)], [desk.sentence, desk.log])

    def test_what_was_taken_back_last_comes_back_first(self):
        desk = behind("es", ABOVE, BELOW, FROM_0)
        log = desk.log
        for version in (2, 1, 0):
            self.does(version, desk, "undo")
            self.assertEqual((log[:version], (ABOVE, BELOW, FROM_0)[:version]), (desk.log, desk.lots))
        for version in (1, 2, 3):
            self.does(version, desk, "redo")
            self.assertEqual((log[:version], (ABOVE, BELOW, FROM_0)[:version]), (desk.log, desk.lots))

    def test_an_edit_forgets_what_was_taken_back(self):
        for method, told in (("put", {"lot": FROM_0}), ("drop", {"place": 0}), ("turn", {"number": 2})):
            desk = behind("es", ABOVE, BELOW, BELOW)
            desk.undo()
            desk.undo()
            self.does(2, desk, method, **told)
            self.fails(NothingToRedo(), desk, "redo")
            self.assertEqual(2, len(desk.log))
        # One that raises does not.
        desk = behind("es", ABOVE, BELOW)
        desk.undo()
        self.fails(Unfit(), desk, "drop", place=1)
        self.fails(BadSentence(("lot", 0)), desk, "put", lot=0)
        self.does(2, desk, "redo")

    def test_at(self):
        desk = behind("es", ABOVE, BELOW)
        desk.drop(0)
        sentences = [("es", ()), CATCH, ("es", (ABOVE, BELOW)), ("es", (BELOW,))]
        for version, sentence in enumerate(sentences):
            self.does(sentence, desk, "at", version=version)
        self.fails(NoVersion(4), desk, "at", version=4)
        desk.undo()
        self.fails(NoVersion(3), desk, "at", version=3)
        self.does(sentences[2], desk, "at", version=2)
        for value in ODD_VALUES + [-1, 3, OF_401, (1,), "1", desk]:
            if isinstance(value, bool) or value not in (0, 1, 2):
                error = outcome_of(desk.at, (value,), {})[1]
                self.assertIs(NoVersion, type(error))
                self.assertIs(value, error.given)

    def test_copy(self):
        desk = behind("es", ABOVE, BELOW)
        desk.undo()
        desk.paper()
        twin = desk.copy()
        self.assertTrue(same(state(desk), state(twin)))
        self.assertIsInstance(twin, Desk)
        before = state(desk)
        twin.turn(1)
        twin.put(FROM_0)
        twin.paper()
        self.assertTrue(same(before, state(desk)))
        twin = desk.copy()
        before = state(twin)
        self.assertEqual(2, desk.redo())
        desk.drop(0)
        desk.drop(0)
        desk.paper()
        self.assertTrue(same(before, state(twin)))
        self.assertEqual(2, twin.redo())

    def test_nothing_returned_changes_later(self):
        desk = behind("es", ABOVE)
        told = [desk.sentence, desk.lots, desk.log, desk.owners, desk.at(1), desk.at(0), desk.paper()]
        kept = copy.deepcopy(told)
        desk.put(FROM_0)
        desk.drop(0)
        desk.turn(2)
        desk.paper()
        desk.undo()
        self.assertTrue(same(kept, told))

    def test_drawn_edits(self):
        drawn = random.Random(130)
        words = []
        for _ in range(60):
            owners = "".join(drawn.choice("es") for _ in range(drawn.randint(0, 3)))
            desk, edits, taken, sentences = Desk(owners), [], [], [(owners, ())]
            for _ in range(30):
                now, lots = sentences[-1]
                word = drawn.choice(("put", "put", "drop", "turn", "undo", "redo"))
                if word in ("undo", "redo"):
                    there = edits if word == "undo" else taken
                    if not there:
                        self.fails(NothingToUndo() if word == "undo" else NothingToRedo(), desk, word)
                        continue
                    self.does(len(edits) + (1 if word == "redo" else -1), desk, word)
                    if word == "undo":
                        taken.append((edits.pop(), sentences.pop()))
                    else:
                        edit, sentence = taken.pop()
                        edits.append(edit)
                        sentences.append(sentence)
                else:
                    if word == "put":
                        name, value = "lot", drawn_lot(drawn, len(now), 2, 3)
                        later = (now, lots + (value,))
                    elif word == "drop":
                        name, value = "place", drawn.randint(0, 3)
                        later = (now, lots[:value] + lots[value + 1:]) if value < len(lots) else None
                    else:
                        name, value = "number", drawn.randint(0, 3)
                        later = None
                        if 1 <= value <= len(now):
                            other = "s" if now[value - 1] == "e" else "e"
                            later = (now[:value - 1] + other + now[value:], lots)
                    if later is None:
                        self.fails(Unfit(), desk, word, **{name: value})
                        continue
                    self.does(len(edits) + 1, desk, word, **{name: value})
                    edits.append((word, (value,)))
                    sentences.append(later)
                    taken = []
                words.append(word)
                self.assertTrue(same(
                    [sentences[-1], len(edits), tuple(edits), sentences],
                    [desk.sentence, desk.version, desk.log, [desk.at(k) for k in range(len(edits) + 1)]],
                ))
            again = desk_behind(owners, desk.log)
            self.assertEqual(desk, again)
            self.assertEqual(desk.log, again.log)
            self.assertEqual(sentences, [again.at(k) for k in range(len(edits) + 1)])
        self.assertTrue(all(words.count(word) > 50 for word in ("put", "drop", "turn", "undo", "redo")))


class Behind(OnDesks, unittest.TestCase):

    def bad(self, place, owners, log):
        self.raises_just(BadLog(place), desk_behind, owners, log)

    def test_right_logs(self):
        self.assertEqual(Desk("es"), desk_behind("es", ()))
        log = (("put", (ABOVE,)), ("put", (())), ("turn", (2,)), ("drop", (0,)))
        log = log[:1] + (("put", ((),)),) + log[2:]
        for desk in (desk_behind("es", log), desk_behind(owners="es", log=log)):
            self.assertEqual(("ee", ((),)), desk.sentence)
            self.assertTrue(same(log, desk.log))
            self.assertEqual((4, 0), (desk.version, desk.found))
            with self.assertRaises(NothingToRedo):
                desk.redo()

    def test_no_tuple(self):
        for value in ODD_VALUES + [[("put", (ABOVE,))], Desk("es")]:
            if not isinstance(value, tuple):
                self.bad(0, "es", value)

    def test_wrong_items(self):
        for item in ODD_VALUES + [
            ("put",), ("put", ABOVE), ("put", (ABOVE, ABOVE)), ("put", (ABOVE,), 1),
            ["put", (ABOVE,)], ("put", [ABOVE]),
            ("put", ()), ("push", (ABOVE,)), ("Put", (ABOVE,)), ("", (ABOVE,)), (None, (ABOVE,)), (["put"], (ABOVE,)),
            ("undo", ()), ("redo", ()), ("undo", (1,)), ("at", (0,)), ("copy", ()), ("paper", ()), ("drop", ()),
            ("drop", 0),
            ("drop", (0, 0)), ("turn", 1), ("turn", ()), (("put",), (ABOVE,)), ({}, ({},)), (Desk("es"), (ABOVE,)),
            # By which an error is raised.
            ("put", (list(ABOVE),)), ("put", (FROM_0 + FROM_0,)), ("put", ((("gt", (0, 1)),),)), ("put", (None,)),
            ("drop", (1,)),
            ("drop", (-1,)), ("drop", (True,)), ("drop", (False,)), ("drop", (None,)), ("drop", ("0",)),
            ("turn", (0,)), ("turn", (3,)),
            ("turn", (True,)), ("turn", (None,)), ("turn", ((1,),)), ("put", (Desk("es"),)),
        ]:
            self.bad(1, "es", (("put", (ABOVE,)), item))
            self.bad(2, "es", (("put", (ABOVE,)), ("turn", (1,)), item, ("drop", (9,)), item))
        self.bad(0, "es", (("drop", (0,)), ("drop", (0,))))
        self.bad(0, "es", (None,))

    def test_items_that_never_come_to_be_done(self):
        self.bad(0, "", (("turn", (1,)),))
        self.bad(16, "es", (("put", ((),)),) * 20)
        self.bad(40, "es", (("turn", (1,)),) * 41)
        self.assertEqual(40, desk_behind("es", (("turn", (1,)),) * 40).version)

    def test_the_log_of_another_desk(self):
        other = behind("sese", (("gt", (1, 2, 3, 4, 5)),))
        self.bad(0, "es", other.log)
        other = behind("es", ABOVE)
        other.turn(2)
        self.bad(0, "s", other.log)
        self.assertEqual(("ss", (ABOVE,)), desk_behind("se", other.log).sentence)

    def test_owners_ahead_of_the_log(self):
        for log in (None, (None,), (("put", (ABOVE,)),)):
            self.raises_just(BadSentence("owners"), desk_behind, "ex", log)
            self.raises_just(BadSentence("owners"), desk_behind, None, log)


class Papers(OnDesks, unittest.TestCase):

    def test_as_told(self):
        desk = behind("es", ABOVE)
        self.assertEqual([0, "some", 1], [desk.found, desk.who(), desk.found])
        told = desk.reply(((5, 1),))
        self.assertEqual(("some", 1), (result(CATCH, ((5, 1), told)), desk.found))
        # With a lot more the paper still is one.
        self.assertEqual([2, "some", 1], [desk.put(FROM_0), desk.who(), desk.found])
        self.assertEqual([3, "each", 2], [desk.drop(0), desk.who(), desk.found])
        self.assertEqual([2, 1, "some", 3], [desk.undo(), desk.undo(), desk.who(), desk.found])
        self.fails(Unfit(), desk, "reply", play=())
        self.fails(Unfit(), desk, "reply", play=((5, 2), (6, 4)))

    def test_asked_twice(self):
        desk = behind("es", ABOVE, BELOW)
        paper = desk.paper()
        self.assertIsNone(paper_error(desk.sentence, paper))
        for _ in range(3):
            self.assertTrue(same(paper, desk.paper()))
            self.assertEqual(("some", 1), (desk.who(), desk.found))
            desk.reply(((7, 2),))
        self.assertEqual(1, desk.found)

    def test_the_kept_paper_stays_where_it_is_one(self):
        desk = behind("es", ABOVE)
        paper = desk.paper()
        for lot in (BELOW, FROM_0, ()):
            desk.put(lot)
            self.assertTrue(same(paper, desk.paper()))
        desk.undo()
        desk.undo()
        self.assertTrue(same(paper, desk.paper()))
        desk.redo()
        self.assertEqual(("some", 1), (desk.who(), desk.found))
        # Each time it is none one is found, also if an elder one would do again.
        desk.turn(2)
        self.assertEqual(("each", 2), (desk.who(), desk.found))
        desk.undo()
        self.assertEqual(("some", 3), (desk.who(), desk.found))
        desk.redo()
        self.assertEqual(("each", 4), (desk.who(), desk.found))

    def test_edits_undo_and_redo_change_nothing_of_it(self):
        desk = behind("es", ABOVE)
        desk.paper()
        desk.drop(0)
        desk.turn(1)
        desk.turn(1)
        desk.undo()
        desk.redo()
        self.assertEqual(1, desk.found)
        desk.put(ABOVE)
        # The paper of the first sentence is one of the present one.
        self.assertEqual(("some", 1), (desk.who(), desk.found))

    def test_a_copy_keeps_the_paper_and_goes_on_counting(self):
        desk = behind("es", ABOVE)
        paper = desk.paper()
        twin = desk.copy()
        self.assertTrue(same(paper, twin.paper()))
        self.assertEqual((1, 1), (desk.found, twin.found))
        twin.drop(0)
        self.assertEqual(("each", 2, 1), (twin.who(), twin.found, desk.found))
        self.assertTrue(same(paper, desk.paper()))
        self.assertEqual(1, desk.found)

    def test_what_find_raises_changes_nothing(self):
        desk = behind("es", ABOVE)
        paper = desk.paper()
        desk.turn(2)
        with mock.patch("answerlines.desks.find", side_effect=TooMany(4000)):
            for method, told in (("paper", {}), ("who", {}), ("reply", {"play": ()})):
                self.fails(TooMany(4000), desk, method, **told)
            self.assertEqual(1, desk.found)
            desk.undo()
            self.assertTrue(same(paper, desk.paper()))
        self.assertEqual(1, desk.found)

    def test_found_rises_where_a_paper_is_asked_for(self):
        plays = (((1, 2),), (), ((1, 2), (1, 3)))
        for place, ask in enumerate((
            lambda desk: desk.paper(), lambda desk: desk.who(), lambda desk: desk.reply(plays[0]),
            # A play, but not the holder's turn.
            lambda desk: outcome_of(desk.reply, (plays[1],), {}), lambda desk: outcome_of(desk.reply, (plays[2],), {}),
        )):
            desk = behind("es", ABOVE)
            ask(desk)
            self.assertEqual(1, desk.found, place)
        for ask in (
            lambda desk: desk.best(((0, 1), (1, 1), (0, 1))), lambda desk: outcome_of(desk.reply, (None,), {}),
            lambda desk: outcome_of(desk.reply, (((1, 2),) * 3,), {}), lambda desk: outcome_of(desk.best, (None,), {}),
            lambda desk: desk.copy(), lambda desk: desk.at(0),
        ):
            desk = behind("es", ABOVE)
            ask(desk)
            self.assertEqual(0, desk.found)

    def test_replies_of_what_is_no_play(self):
        desk = behind("es", ABOVE)
        for value in ODD_VALUES + [[(1, 2)], ((2, 4),), ((1, 2), 3), ((True, 1),), ((1, 2),) * 3, (ONE, ONE, ONE),
        (1, 2), desk]:
            if play_error(desk.sentence, value) is not None:
                self.fails(Unfit(), desk, "reply", play=value)
        self.assertEqual(0, desk.found)

    def test_replies_at_the_other_partys_turn(self):
        desk = behind("es", ABOVE)
        self.fails(Unfit(), desk, "reply", play=())
        self.fails(Unfit(), desk, "reply", play=(ONE, ONE))
        desk.turn(2)
        # EACH holds the paper now, and all turns are EACH's.
        first = desk.reply(())
        self.assertEqual("each", result(desk.sentence, (first, desk.reply((first,)))))
        desk = behind("ss", ABOVE + BELOW)
        for play in ((), (ONE,), (ONE, ONE)):
            self.fails(Unfit(), desk, "reply", play=play)
        self.fails(Unfit(), Desk(""), "reply", play=())

    def test_best(self):
        lots = ((("ge", (0, -1, 1)), ("ge", (4, 0, -1))), (("gt", (-3, 1, 0)),), (("gt", (0, -1, 0)),))
        desk = behind("es", *lots)
        self.does(("reached", (4, 1)), desk, "best", form=((0, 1), (0, 1), (1, 1)))
        self.does(("reached", (1, 1)), desk, "best", form=((0, 1), (-1, 1), (1, 1)))
        self.does(("never",), desk, "best", form=((0, 1), (1, 1), (0, 1)))
        self.does(("never",), Desk("es"), "best", form=((0, 1), (1, 1), (0, 1)))
        self.does(("reached", (OF_400, 7)), behind("", ()), "best", form=((OF_400, 7),))
        for value in ODD_VALUES + [
            (), (ONE,), (ONE,) * 2, (ONE,) * 4, [ONE] * 3, (ONE, ONE, 1), (ONE, ONE, (2, 4)), (ONE, ONE, (True, 1)),
            (ONE, ONE, [1, 1]),
            (ONE, ONE, None), desk,
        ]:
            self.fails(Unfit(), desk, "best", form=value)
        self.assertEqual(0, desk.found)
        self.fails(TooMany(8), Desk("e" * 8), "best", form=(ONE,) * 9)
        self.fails(Unfit(), Desk("e" * 8), "best", form=(ONE,) * 8)
        sixteen = behind("s", tuple(("ge", (k, 1)) for k in range(16)))
        self.fails(TooMany(16), sixteen, "best", form=(ONE, ONE))

    def test_a_right_paper_at_each_time(self):
        drawn = random.Random(131)
        sides = []
        for _ in range(40):
            desk = Desk("".join(drawn.choice("es") for _ in range(drawn.randint(1, 3))))
            found, kept = 0, None
            for _ in range(12):
                n = len(desk.owners)
                word = drawn.choice(("put", "put", "put", "drop", "turn", "undo", "redo"))
                told = {
                    "put": (drawn_lot(drawn, n, 2, 2),), "drop": (drawn.randint(0, 2),), "turn": (drawn.randint(1, n),),
                }.get(word, ())
                outcome_of(getattr(desk, word), told, {})
                self.assertEqual(found, desk.found)
                if drawn.random() < 0.5:
                    continue
                if kept is None or paper_error(desk.sentence, kept) is not None:
                    found += 1
                paper = desk.paper()
                self.assertIsNone(paper_error(desk.sentence, paper))
                self.assertEqual(found, desk.found)
                kept = paper
                who = desk.who()
                sides.append(who)
                self.assertEqual(HOLDERS[paper[0]], who)
                self.assertEqual(decided(desk.sentence), who)
                self.wins(drawn, desk, who)
                self.assertEqual(found, desk.found)
                form = tuple(drawn_fraction(drawn) for _ in range(n + 1))
                self.assertEqual(best_sure(desk.sentence, form), desk.best(form))
        self.assertTrue(min(sides.count("some"), sides.count("each")) > 40)

    def wins(self, drawn, desk, who):
        """Check that who wins a play by replies of desk."""
        play = ()
        while len(play) < len(desk.owners):
            if owner_of(desk.sentence, len(play) + 1) == who:
                told = desk.reply(play)
                self.assertEqual(reply(desk.sentence, desk.paper(), play), told)
                play += (told,)
            else:
                self.fails(Unfit(), desk, "reply", play=play)
                play += (drawn_fraction(drawn, drawn.random() < 0.1),)
        self.assertEqual(who, result(desk.sentence, play))

    def test_errors_are_line_errors(self):
        self.assertTrue(all(issubclass(error, LineError) for error in (BadLog, BadSentence, NoVersion, TooManyEdits)))


if __name__ == "__main__":
    unittest.main()
