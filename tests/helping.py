"""What several tests need: asking by place and by name, and values of all kinds."""

import copy
import inspect
import math

from answerlines.errors import BadLog, BadText, LineError, NoVersion, Unfit

# The names of the arguments, as DOC.md tells them.
ARGUMENTS = {
    "lowest": ("a", "b"),
    "compared": ("one", "other"),
    "between": ("low", "high"),
    "fraction_text": ("fraction",),
    "read_fraction": ("value",),
    "form_value": ("form", "play"),
    "row_error": ("k", "value"),
    "row_of": ("word", "form"),
    "holds": ("row", "play"),
    "contrary": ("row",),
    "put": ("row", "form"),
    "follows_alone": ("one", "other"),
    "sentence_error": ("value",),
    "owner_of": ("sentence", "number"),
    "sentence_text": ("sentence",),
    "read_sentence": ("value",),
    "lot_text": ("n", "lot"),
    "read_lot": ("n", "value"),
    "play_error": ("sentence", "value"),
    "result": ("sentence", "play"),
    "rest": ("sentence", "play"),
    "thinned": ("some",),
    "rests": ("k", "claim"),
    "lowers": ("k", "claim"),
    "uppers": ("k", "claim"),
    "paper_error": ("sentence", "value"),
    "claims_of": ("sentence", "paper"),
    "trimmed": ("sentence", "paper"),
    "paper_text": ("paper",),
    "read_paper": ("value",),
    "why": ("sentence", "paper", "play"),
    "reply": ("sentence", "paper", "play"),
    "followed": ("sentence", "paper", "others"),
    "table_of": ("sentence", "paper"),
    "table_reply": ("told", "play"),
    "find": ("sentence",),
    "decided": ("sentence",),
    "winner": ("sentence", "play"),
    "core": ("sentence",),
    "follows": ("k", "lot", "row"),
    "counter": ("k", "lot", "row"),
    "weights": ("k", "lot", "row"),
    "weights_error": ("k", "lot", "row", "value"),
    "slim": ("sentence",),
    "formula_error": ("value",),
    "free_names": ("formula",),
    "formula_text": ("formula",),
    "read_formula": ("value",),
    "closed_in": ("formula", "world"),
    "holds_in": ("formula", "world"),
    "prenexed": ("formula",),
    "compiled": ("formula",),
    "formula_solved": ("formula",),
    "formula_reply": ("formula", "paper", "numbers"),
    "stretches_error": ("value",),
    "in_stretches": ("row", "fraction"),
    "joined": ("one", "other"),
    "met": ("one", "other"),
    "outside": ("row",),
    "simplest": ("row",),
    "least": ("row",),
    "greatest": ("row",),
    "firsts": ("sentence",),
    "stretches": ("formula",),
    "parting": ("one", "other"),
    "with_least": ("sentence", "form", "value"),
    "best_sure": ("sentence", "form"),
    "plan_error": ("value",),
    "plan_text": ("plan",),
    "read_plan": ("value",),
    "outcome": ("plan", "times"),
    "plan_sentence": ("plan",),
    "can_keep": ("plan",),
    "plan_paper": ("plan",),
    "next_time": ("plan", "paper", "times"),
    "first_times": ("plan",),
    "longest": ("plan", "event"),
    "least_span": ("plan", "i", "j"),
    "desk_behind": ("owners", "log"),
}

OF_SIXTY = 10 ** 59 + 7
OF_400 = 10 ** 399 + 9
OF_401 = 10 ** 400
# More figures than Python writes or reads by itself.
OF_5001 = 10 ** 5000


def nested(depth):
    """Return a tuple in a list in a tuple and so on, depth deep."""
    value = ()
    for level in range(depth - 1):
        value = [value] if level % 2 else (value,)
    return value


# Values of all kinds that may be handed in anywhere, none of them a fraction, a
# row, a lot, a sentence, a play of a fraction or more, or the text of one.
ODD_VALUES = [
    None, True, False, 0, 1, -1, 2, OF_400, -OF_400, OF_5001,
    "", "e", "x", "ge", "ge>", "one\nline and another", "z" * 20000, "\n", " ",
    [], [()], [1, 2], ["ge", (1, 1)], ["es", ()], [(1, 2)], {}, {"a": 1}, {0: "ge", 1: (1, 1)},
    {(1, "x"): [None], True: {}, None: ()}, (None,), (True,), (((),),), ((), (), ()), ([], []), ({}, {}),
    (True, False), (1, True), ("ge", "gt"), ("e", "s"), ("es", [()]), ("gt", {}), ({}, ()), ([], ()),
    (1,), (1, 2, 3), (None, None), ("ge", (1, 1), ()), nested(60), tuple(range(4000)), [0] * 3999,
    Unfit(), BadText(), BadLog(0), NoVersion([1]), (BadText(), ()), (NoVersion("ge"), (1, 1)),
]


def same(one, other):
    """Tell whether one and other are alike, True being no 1 and a list no tuple."""
    if type(one) is not type(other):
        return False
    if isinstance(one, (tuple, list)):
        return len(one) == len(other) and all(map(same, one, other))
    if isinstance(one, dict):
        return same(list(one.items()), list(other.items()))
    if isinstance(one, LineError):
        return same(vars(one), vars(other))
    return one == other


def outcome_of(function, places, names):
    """Return the pair of what a call returned and which LineError it raised."""
    try:
        return (function(*places, **names), None)
    except LineError as error:
        return (None, error)


def asked(function, *arguments):
    """Return what function tells, or raise what it raises.

    It is asked by place, by the names of DOC.md, and once more by place; all must
    be alike, and what was handed in must be as it was.
    """
    ahead = copy.deepcopy(arguments)
    names = ARGUMENTS[function.__name__]
    first = outcome_of(function, arguments, {})
    kept = copy.deepcopy(first)
    for places, named in (((), dict(zip(names, arguments))), (arguments, {})):
        later = outcome_of(function, places, named)
        if not same(first, later):
            raise AssertionError(f"unlike answers of {function.__name__}")
    if not same(ahead, arguments):
        raise AssertionError(f"{function.__name__} changed what it was handed")
    if not same(first, kept):
        raise AssertionError(f"what {function.__name__} returned has changed")
    if first[1] is not None:
        raise first[1]
    return first[0]


class Checks:
    """Further checks beside those of unittest.TestCase."""

    def tells(self, wanted, function, *arguments):
        """Check that function tells just what is wanted."""
        told = asked(function, *arguments)
        if not same(wanted, told):
            self.fail(f"{function.__name__}: {brief(told)} is not {brief(wanted)}, of {brief(arguments)}")

    def raises_just(self, wanted, function, *arguments):
        """Check that function raises an error just like wanted: of its class, and keeping the same."""
        try:
            told = asked(function, *arguments)
        except LineError as error:
            self.assertTrue(same(wanted, error), f"{type(error).__name__} {vars(error)}")
        else:
            self.fail(f"{function.__name__}: {brief(told)} and no error, of {brief(arguments)}")

    def refuses(self, wanted, function, *arguments):
        """Check that function raises an error of just this class."""
        try:
            told = asked(function, *arguments)
        except LineError as error:
            self.assertIs(wanted, type(error))
        else:
            self.fail(f"{function.__name__}: {brief(told)} and no error, of {brief(arguments)}")


def brief(value):
    """Return a short text of value, however great."""
    try:
        text = repr(value)
    except ValueError:
        return "what is too great to be shown"
    return text if len(text) <= 300 else text[:300] + ".."


def parameters(function):
    """Return the names of function's parameters."""
    return tuple(inspect.signature(function).parameters)


def is_a_fraction(value):
    """Tell by another way than the package whether value is a fraction."""
    return (
        type(value) is tuple and len(value) == 2 and all(type(item) is int for item in value)
        and value[1] > 0 and math.gcd(*value) == 1
    )
