import unittest

from helpers import Case
from ringlessday.words import end_word, number_word, word_of_end


class WordsTest(Case):
    def test_numbers(self):
        self.same([number_word(word) for word in ("0", "7", "10", "1000000000")], [0, 7, 10, 10 ** 9])

    def test_no_numbers(self):
        for word in ("", "00", "07", "-1", "+1", "1.0", " 1", "1 ", "1_0", "z", "5z", "\u0665", "1" * 11, "1" * 6000):
            self.assertIsNone(number_word(word))

    def test_ends(self):
        self.same([end_word("x.a"), end_word("abcdef.stem")], [("x", "a"), ("abcdef", "stem")])
        self.assertEqual(word_of_end(("x", "a")), "x.a")

    def test_no_ends(self):
        for word in ("", ".", "x", "x.", ".a", "x.a.", "x.a.b", "X.a", "x.A", "x a", "abcdefg.a"):
            self.assertIsNone(end_word(word))


if __name__ == "__main__":
    unittest.main()
