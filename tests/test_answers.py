"""The answers of the program before it was made faster, kept as digests, one for each drawn net.

Those in answers.txt are of the first time that it was, those in asked.txt of the second one.
"""

import os
import unittest

from asked import large_answers, small_answers
from drawn import answers

FOLDER = os.path.dirname(os.path.abspath(__file__))


def kept(name):
    """The lines of a file as lists of words."""
    with open(os.path.join(FOLDER, name), encoding="utf-8") as file:
        return [line.split() for line in file]


class AnswersTest(unittest.TestCase):
    def test_as_before(self):
        self.assertGreaterEqual(len(kept("answers.txt")), 300)
        for seed, digest in kept("answers.txt"):
            self.assertEqual(answers(int(seed)), digest, seed)

    def test_as_before_the_second_time(self):
        ask = {"small": small_answers, "large": large_answers}
        self.assertGreaterEqual(len(kept("asked.txt")), 600)
        for kind, seed, digest in kept("asked.txt"):
            self.assertEqual(ask[kind](int(seed)), digest, (kind, seed))


if __name__ == "__main__":
    unittest.main()
