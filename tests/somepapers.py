"""Sentences with papers made by hand, of both sides, of no unknown to four."""

SAME = (("ge", (0, -1, 1)), ("ge", (0, 1, -1)))
COPIED = ("es", (SAME,))
GUESSED = ("se", (SAME,))
PARTED = ("e", ((("ge", (-1, 1)),), (("gt", (2, -1)),)))
YES = ("yes", (("lot", 0), ("answer", 0, ((0, 1), (1, 1))), ("cover", (1,))))
NO = ("no", (("against", (0,)), ("answer", 0, ((-1, 1), (1, 1))), ("cover", (1,))))
EITHER = ("yes", (("lot", 0), ("lot", 1), ("cover", (1, 0))))
NEAR = ("es", ((("gt", (0, -1, 1)), ("ge", (1, 1, -1))),))
HALF = ("yes", (("lot", 0), ("answer", 0, ((1, 2), (1, 1))), ("cover", (1,))))
FAR = ("es", (
    (("ge", (0, 1, 0)), ("ge", (0, -1, 1)), ("ge", (0, 1, -1))),
    (("ge", (0, -1, 0)), ("ge", (0, 1, 1)), ("ge", (0, -1, -1))),
))
SIZE = ("yes", (
    ("lot", 0), ("answer", 0, ((0, 1), (1, 1))), ("lot", 1), ("answer", 2, ((0, 1), (-1, 1))), ("cover", (3, 1)),
))
LESS = ("se", ((("gt", (0, 1, -1)),),))
LEVEL = ("no", (("against", (0,)), ("answer", 0, ((0, 1), (1, 1))), ("cover", (1,))))
MID = ("ses", (
    (("ge", (0, -1, 1, 0)), ("gt", (0, 0, -1, 1)), ("ge", (4, 0, 2, -1))), (("gt", (0, 1, -1, 0)),),
))
STAY = ("yes", (
    ("lot", 0), ("answer", 0, ((2, 1), (0, 1), (3, 2))), ("lot", 1), ("answer", 2, ((0, 1),) * 3),
    ("cover", (3, 1)), ("answer", 4, ((0, 1),)),
))
# Two turns each: SOME follows EACH, or EACH follows SOME.
TWICE = ("eses", ((("ge", (0, -1, 1, 0, 0)), ("ge", (0, 1, -1, 0, 0)), ("gt", (0, 0, -1, -1, 1))),))
TWICE_YES = ("yes", (
    ("lot", 0), ("answer", 0, ((1, 1), (0, 1), (1, 1), (1, 1))), ("cover", (1,)), ("answer", 2, ((0, 1), (1, 1))),
    ("cover", (3,)),
))
BEHIND = ("sese", ((("gt", (0, 1, -1, 0, 0)),), (("gt", (0, 0, 0, 1, -1)), ("ge", (1, 0, 0, 0, 0)))))
BEHIND_NO = ("no", (
    ("against", (0, 0)), ("answer", 0, ((0, 1), (0, 1), (0, 1), (1, 1))), ("cover", (1,)),
    ("answer", 2, ((0, 1), (1, 1))), ("cover", (3,)),
))
# All numbers are EACH's: three lots cover the line, whatever x1 is.
ALL_OF_EACH = ("ee", ((("ge", (0, -1, 1)),), (("ge", (0, 1, -1)), ("ge", (1, -1, 1))), (("gt", (-1, 1, -1)),)))
ALL_OF_EACH_YES = ("yes", (("lot", 0), ("lot", 1), ("lot", 2), ("cover", (2, 1, 0)), ("cover", (3,))))
# All are SOME's: no lot can hold, as its rows contradict one another.
ALL_OF_SOME = ("ss", ((("gt", (0, -1, 1)), ("ge", (0, 1, -1))), (("gt", (-1, 1, 0)), ("gt", (0, -1, 0)))))
ALL_OF_SOME_NO = ("no", (
    ("against", (0, 0)), ("against", (0, 1)), ("against", (1, 0)), ("against", (1, 1)), ("cover", (0, 2)),
    ("cover", (1, 3)), ("cover", (4, 5)),
))

PAPERS = [
    (("", ()), ("no", (("against", ()),))),
    (("", ((),)), ("yes", (("lot", 0),))),
    (("", ((("gt", (0,)),), (("ge", (1,)), ("ge", (0,))))), ("yes", (("lot", 1),))),
    (("", ((("gt", (0,)),), (("ge", (1,)), ("ge", (-1,))))), ("no", (("against", (0, 1)),))),
    (("s", ((("gt", (0, 1)),),)), ("yes", (("lot", 0), ("answer", 0, ((1, 3),))))),
    (("s", ((("gt", (0, 0)), ("ge", (0, 1))),)), ("no", (("against", (0,)), ("cover", (0,))))),
    (("s", ((("gt", (0, 1)), ("ge", (0, -1))),)), ("no", (("against", (0,)), ("against", (1,)), ("cover", (0, 1))))),
    (("e", ((("gt", (0, 1)),),)), ("no", (("against", (0,)), ("answer", 0, ((0, 1),))))),
    (("e", ((),)), ("yes", (("lot", 0), ("cover", (0,))))),
    (("e", ()), ("no", (("against", ()), ("answer", 0, ((-5, 7),))))),
    (COPIED, YES), (GUESSED, NO), (PARTED, EITHER), (NEAR, HALF), (FAR, SIZE), (LESS, LEVEL), (MID, STAY),
    (TWICE, TWICE_YES), (BEHIND, BEHIND_NO), (ALL_OF_EACH, ALL_OF_EACH_YES), (ALL_OF_SOME, ALL_OF_SOME_NO),
    # A step named twice, and steps put between that nothing needs.
    (PARTED, ("yes", (("lot", 0), ("lot", 1), ("cover", (1, 1, 0))))),
    (PARTED, ("yes", (("lot", 0), ("lot", 1), ("cover", (1, 0, 0))))),
    (COPIED, ("yes", (("lot", 0), ("lot", 0), ("answer", 1, ((0, 1), (1, 1))), ("cover", (2,))))),
    (COPIED, ("yes", (
        ("lot", 0), ("answer", 0, ((5, 1), (0, 1))), ("answer", 0, ((0, 1), (1, 1))), ("cover", (2,)),
    ))),
    (GUESSED, ("no", (
        ("against", (1,)), ("against", (0,)), ("answer", 1, ((-1, 1), (1, 1))), ("cover", (2, 2)),
    ))),
]
