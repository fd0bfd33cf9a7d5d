import unittest

from helpers import ANYTHING, Case
from ringlessday.errors import InvalidText
from ringlessday.words import end_word, entry_word, number_word, rows_of, word_of_end, word_of_entry, word_of_number


class WordsTest(Case):
    def test_numbers(self):
        self.same([number_word(word) for word in ("0", "7", "10", "1000000000")], [0, 7, 10, 10 ** 9])

    def test_no_numbers(self):
        for word in ("", "00", "07", "-1", "+1", "1.0", " 1", "1 ", "1_0", "z", "5z", "z5", "\u0665", "\u00b2", "1\n", "0" * 6000,
                     "0" + "1" * 6000, "1" * 6000 + "-", "-0"):
            self.assertIsNone(number_word(word))

    def test_great_numbers(self):
        for digits in (1, 9, 10, 18, 19, 4299, 4300, 4301, 6000):
            for number in (10 ** digits, 10 ** digits - 1, (10 ** digits - 1) // 9, 10 ** digits + 7):
                word = word_of_number(number)
                self.assertTrue(number_word(word) == number)
                self.assertTrue(word_of_number(-number) == "-" + word)
                if digits < 4300:
                    self.assertTrue(word == str(number))
        self.same(word_of_number((10 ** 5000 - 1) // 9 * 7), "7" * 5000)
        self.same([word_of_number(number) for number in (0, 7, -7, 10 ** 9, -10 ** 9, 10 ** 9 - 1)],
                  ["0", "7", "-7", "1000000000", "-1000000000", "999999999"])

    def test_entries(self):
        self.same([entry_word("a.0"), entry_word("abcdef.5"), entry_word("a.60")], [("a", 0), ("abcdef", 5), ("a", 60)])
        self.assertEqual(word_of_entry(("a", 5)), "a.5")
        for word in ("", "a", "a.", ".0", "a.0.", "a.0.1", "A.0", "a.00", "a.-1", "a.x", "a 0", "abcdefg.0", "a.1\n", "0.a"):
            self.assertIsNone(entry_word(word))

    def test_rows(self):
        self.same([rows_of(""), rows_of("a\n"), rows_of("a\n\nb\n"), rows_of("a"), rows_of("a\n\n"), rows_of("a\nb")],
                  [[], ["a"], ["a", "", "b"], [None], ["a", ""], ["a", None]])
        for value in ANYTHING:
            if not isinstance(value, str):
                self.refused(InvalidText(0), rows_of, value)

    def test_ends(self):
        self.same([end_word("x.a"), end_word("abcdef.stem")], [("x", "a"), ("abcdef", "stem")])
        self.assertEqual(word_of_end(("x", "a")), "x.a")

    def test_no_ends(self):
        for word in ("", ".", "x", "x.", ".a", "x.a.", "x.a.b", "X.a", "x.A", "x a", "abcdefg.a"):
            self.assertIsNone(end_word(word))


if __name__ == "__main__":
    unittest.main()
