"""The answers of the program before it was made faster, kept as digests in answers.txt, one for each drawn net."""

import os
import unittest

from drawn import answers

PATH = os.path.join(os.path.dirname(os.path.abspath(__file__)), "answers.txt")


class AnswersTest(unittest.TestCase):
    def test_as_before(self):
        with open(PATH, encoding="utf-8") as file:
            kept = [line.split() for line in file]
        self.assertGreaterEqual(len(kept), 300)
        for seed, digest in kept:
            self.assertEqual(answers(int(seed)), digest, seed)


if __name__ == "__main__":
    unittest.main()
