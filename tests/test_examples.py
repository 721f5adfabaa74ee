"""The examples of the document, each point by itself, behind those ahead of it."""

import doctest
import pathlib
import re
import unittest

TEXT = (pathlib.Path(__file__).parent / "examples.txt").read_text()
PARTS = re.split(r"(?m)^Point (\d+)\s*$", TEXT)
POINTS = list(zip(PARTS[1::2], PARTS[2::2]))


def run(point, text, names):
    """Run the examples of a point with these names; how many there were, and what went wrong."""
    test = doctest.DocTestParser().get_doctest(text, names, f"point {point}", "examples.txt", 0)
    said = []
    result = doctest.DocTestRunner(verbose=False).run(test, out=said.append, clear_globs=False)
    names.update(test.globs)
    return result, "".join(said)


class Examples(unittest.TestCase):

    def test_each_point(self):
        names = {}
        for point, text in POINTS:
            with self.subTest(point):
                result, said = run(point, text, names)
                self.assertGreater(result.attempted, 0)
                self.assertEqual(result.failed, 0, said)

    def test_points(self):
        self.assertEqual([point for point, text in POINTS], ["11", "12", "13", "14", "15",
                                                             "21", "22", "23", "24", "25", "31", "32", "33",
                                                             "41", "42", "43", "51", "52", "53", "54", "56",
                                                             "61", "62", "63", "64", "65", "71", "72",
                                                             "81", "82", "83", "84", "85", "86", "91", "92",
                                                             "101", "102", "103", "104"])


if __name__ == "__main__":
    unittest.main()
