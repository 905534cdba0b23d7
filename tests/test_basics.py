import unittest

from outsigns.basics import is_count, is_integer, is_link, is_name, link_of
from outsigns.errors import InvalidName
from values import NOT_LINKS, NOT_NAMES

WHOLE = [0, 1, -1, 2, 7, 60, 120, 10 ** 29, 10 ** 30 - 1, -(10 ** 29), -(10 ** 30 - 1)]
NOT_WHOLE = [None, True, False, "", "1", b"1", [], [1], (), (1,), {}, {1: 1}, {1}, object(), int]
NAMES = ["a", "z", "ab", "zz", "abcdefgh", "zzzzzzzz", "in", "none", "true"]


class BasicsTest(unittest.TestCase):
    def test_is_integer(self):
        for value in WHOLE:
            self.assertIs(is_integer(value), True)
        for value in NOT_WHOLE:
            self.assertIs(is_integer(value), False, value)

    def test_is_count(self):
        for value in WHOLE:
            self.assertIs(is_count(value), value >= 0)
        for value in NOT_WHOLE:
            self.assertIs(is_count(value), False, value)

    def test_is_name(self):
        for value in NAMES:
            self.assertIs(is_name(value), True)
        for value in NOT_NAMES:
            self.assertIs(is_name(value), False, value)

    def test_each_sign_of_a_name(self):
        for code in range(32, 127):
            if chr(code) == "%":
                continue
            letter = "a" <= chr(code) <= "z"
            for text in (chr(code), "a" + chr(code), chr(code) + "a", "abc" + chr(code) + "defg"):
                self.assertIs(is_name(text), letter, text)

    def test_is_link(self):
        for value in [("a", "b"), ("b", "a"), ("abcdefgh", "a"), ("a", "aa")]:
            self.assertIs(is_link(value), True)
        for value in NOT_LINKS + [("a", name) for name in NOT_NAMES] + [(name, "a") for name in NOT_NAMES]:
            self.assertIs(is_link(value), False, value)

    def test_link_of(self):
        for one, other in [("a", "b"), ("a", "aa"), ("y", "z"), ("ab", "b"), ("abcdefgh", "abcdefgi")]:
            self.assertEqual(link_of(one, other), (one, other))
            self.assertEqual(link_of(other, one), (one, other))
        self.assertIsInstance(link_of("a", "b"), tuple)

    def test_link_of_refuses(self):
        for value in NOT_NAMES:
            for made in (lambda: link_of(value, "a"), lambda: link_of("a", value), lambda: link_of(value, "")):
                with self.assertRaises(InvalidName) as caught:
                    made()
                self.assertIs(caught.exception.value, value)
        for name in NAMES:
            with self.assertRaises(InvalidName) as caught:
                link_of(name, name)
            self.assertEqual(caught.exception.value, name)

    def test_parameters_by_name(self):
        self.assertTrue(is_integer(value=1))
        self.assertTrue(is_count(value=1))
        self.assertTrue(is_name(value="a"))
        self.assertTrue(is_link(value=("a", "b")))
        self.assertEqual(link_of(other="a", one="b"), ("a", "b"))


if __name__ == "__main__":
    unittest.main()
