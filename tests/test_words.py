"""toldlate/words.py: what a NAME is [2], and a NUMBER in a text [15]."""

import itertools
import unittest

from toldlate.words import is_name, is_numeral, name_set, pair_set


class TestWords(unittest.TestCase):

    def test_names(self):
        for value in ("a", "z", "page", "abcdefgh"):
            self.assertIs(is_name(value), True)

    def test_no_names(self):
        for value in ("", "abcdefghi", "A", "aB", "a1", "a b", "a\n", "\u00e4", 1, True, None, (), ["a"], {}):
            self.assertIs(is_name(value), False)

    def test_numerals(self):
        for word in ("0", "7", "10", "1" + "0" * 60):
            self.assertIs(is_numeral(word), True)

    def test_no_numerals(self):
        for word in ("", "00", "01", "-1", "+1", " 1", "1 ", "1\n", "1_0", "a", "1a", "\u0661", "\u00b2"):
            self.assertIs(is_numeral(word), False)

    def test_name_sets(self):
        self.assertEqual((name_set(()), name_set(["a"])), ((), ("a",)))
        for order in itertools.permutations(("b", "ab", "a", "aa", "ab")):
            self.assertEqual(name_set(order), ("a", "aa", "ab", "b"))
            self.assertEqual(name_set({name: 0 for name in order}), ("a", "aa", "ab", "b"))

    def test_pair_sets_ascend_as_pairs_do(self):
        pairs = list(itertools.product(("a", "ab", "b", "z"), ("a", "b", "ba")))
        self.assertEqual(pair_set(()), ())
        self.assertEqual(pair_set(pairs[::-1] + pairs), tuple(sorted(pairs)))
        self.assertEqual(pair_set([["b", "a"], ["a", "z"], ["b", "a"]]), (("a", "z"), ("b", "a")))


if __name__ == "__main__":
    unittest.main()
