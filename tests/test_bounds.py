"""The bounds of the interface."""

import unittest

from answerlines import bounds


class Bounds(unittest.TestCase):

    def test_each_name_has_its_number(self):
        wanted = {
            "MAX_UNKNOWNS": 8, "MAX_LOTS": 16, "MAX_ROWS": 16, "MAX_CLAIM": 200, "MAX_STEPS": 4000,
            "MAX_FIGURES": 400, "MAX_NODES": 200, "MAX_NEST": 20, "MAX_EVENTS": 8, "MAX_EDITS": 40,
        }
        told = {name: worth for name, worth in vars(bounds).items() if name.startswith("MAX_")}
        self.assertEqual(wanted, told)
        self.assertEqual({int}, {type(worth) for worth in told.values()})


if __name__ == "__main__":
    unittest.main()
