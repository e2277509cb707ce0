"""The examples of DOC.md, kept word for word in examples.txt, in their order."""

import pathlib
import unittest

from answerlines import errors
from tests.helping import same

TEXT = pathlib.Path(__file__).with_name("examples.txt").read_text(encoding="utf-8")
PROMISES = (
    "A5", "A6", "A7", "A8", "A9", "B2", "B3", "B4", "C2", "C4", "C5", "D2", "D3", "D4",
    "D5", "E2", "F2", "F3", "F4", "G2", "G3", "G4", "G5", "G6", "G7", "H2", "H3",
    "H4", "H5", "J2", "J3", "J4", "K3", "K4", "K5",
)


def steps_of(text):
    """Return the triples (promise, line of code, line that tells what comes, "" for none)."""
    steps = []
    promise = ""
    for line in text.splitlines():
        if line.startswith(">>> "):
            steps.append((promise, line[4:], ""))
        elif line.startswith("[") and line[1:-1] in PROMISES:
            promise = line[1:-1]
        elif line:
            steps[-1] = (*steps[-1][:2], line)
    return steps


class Examples(unittest.TestCase):

    def check(self, code, told, names):
        if told == "":
            exec(code, names)
        elif told.startswith("raises "):
            wanted = eval(told.removeprefix("raises "), dict(vars(errors)))
            with self.assertRaises(errors.LineError) as caught:
                eval(code, names)
            self.assertTrue(same(wanted, caught.exception), code)
        else:
            self.assertTrue(same(eval(told), eval(code, names)), code)

    def test_each_example_tells_what_the_document_tells(self):
        names = {}
        for promise, code, told in steps_of(TEXT):
            with self.subTest(promise=promise, code=code):
                self.check(code, told, names)

    def test_none_is_left_out(self):
        steps = steps_of(TEXT)
        self.assertEqual(set(PROMISES), {promise for promise, _, _ in steps})
        self.assertEqual(216, len(steps))
        self.assertEqual(146, len([told for _, _, told in steps if told]))


if __name__ == "__main__":
    unittest.main()
