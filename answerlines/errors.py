"""The errors of the package, each one directly under LineError.

Their words are fixed and tell none of the values that they keep, as such a
value may be too great for Python to write it out.
"""


class LineError(ValueError):
    """An error of this package."""


class Unfit(LineError):
    """What was asked does not fit what was handed in."""


class BadText(LineError):
    """The value is not the text of such a thing."""


class BadSentence(LineError):
    """What was handed in makes no sentence; error tells why."""

    def __init__(self, error):
        super().__init__("this makes no sentence")
        self.error = error


class BadPaper(LineError):
    """What was handed in is no paper of the sentence; error tells why."""

    def __init__(self, error):
        super().__init__("this is no paper of the sentence")
        self.error = error


class BadPlan(LineError):
    """What was handed in makes no plan; error tells why."""

    def __init__(self, error):
        super().__init__("this makes no plan")
        self.error = error


class NoName(LineError):
    """The world does not have the name given."""

    def __init__(self, given):
        super().__init__("the world does not have this name")
        self.given = given


class TooMany(LineError):
    """There would be more than limit of something."""

    def __init__(self, limit):
        super().__init__("there would be more than the limit")
        self.limit = limit


class TooManyEdits(LineError):
    """No further edit may stand."""


class NothingToUndo(LineError):
    """No edit stands."""


class NothingToRedo(LineError):
    """No edit was taken back."""


class NoVersion(LineError):
    """There is no version given."""

    def __init__(self, given):
        super().__init__("there is no such version")
        self.given = given


class BadLog(LineError):
    """The log can't be followed at place."""

    def __init__(self, place):
        super().__init__("the log can't be followed")
        self.place = place
